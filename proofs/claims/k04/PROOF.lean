import PyProof.Rows.All
import Wide.All
import OpenK.AllK
import Wide.FinOn
import PyProof.EqAt
import PyProof.EqKinds
import PyProof.TupleCall
import HandS.ForMost
import HandS.Wide
import HandS.Codes
import HandS.TupLe
import HandS.Star
import HandS.StrMore
import HandS.FStr
import HandS.Evl
import HandS.Exc
import HandS.TryMany
import HandS.ExcInit
import HandS.ExcField
import HandS.WideBits
import HandS.WordsExc
import HandS.Walk
import HandS.SortRule
import HandS.IsInst
import HandS.DictComp
import KE.KSortTupAny
import HandS.DeepEq
import PySem.Challenge.RW_suffixhouse_k04_machines_of_houses
set_option Elab.async false
set_option linter.all false
set_option maxRecDepth 100000
set_option maxHeartbeats 4000000
namespace SH
open PySem PySem.Spec PyProof.Rows L2
section
variable {P : Program} {w : World} {K : PySem.W.Frag} {mg : Str → Option Value} {base : Heap}
/-- a def of the top as it stands: its text, its name's value, how it binds -/
structure Dd (K : PySem.W.Frag) (mg : Str → Option Value) (x : Str) (st : Stmt) (ps : List Str) : Prop where
  ex : ∃ (f : Addr) (fd : FuncData), Fun K x x st f fd ∧ mg x = some (.ref f) ∧ Binds K fd ps []
/-- a def that lets nothing out, callable by its name -/
abbrev Cl (P : Program) (w : World) (K : PySem.W.Frag) (mg : Str → Option Value) (base : Heap) (k : Nat) (x : Str) (sp : Sp) : Prop := C8.Cal P w K mg base k x sp []
/-- a def that may raise -/
structure ClX (P : Program) (w : World) (K : PySem.W.Frag) (mg : Str → Option Value) (base : Heap) (k : Nat) (x : Str) (sp : Sp) : Prop where
  ex : ∃ (f : Addr) (fd : FuncData) (ps : List Str), FnOk P w K mg base (L2.CX P w) k f fd ps sp ∧ mg x = some (.ref f) ∧ PySem.W.keepIn K (.ref f) = true ∧ Binds K fd ps []
theorem cl_of {x : Str} {st : Stmt} {ps N : List Str} {k : Nat} {sp : Sp} (D : Dd K mg x st ps) (S : FnScope N ps (defScope st)) (len : ∀ vs H Q E, sp vs H Q E → vs.length = ps.length)
    (hbody : ∀ (f : Addr) (cdv : Value) (A : Around) (outer : List Env) (s : Shared) (H : Hp) (vs : List V) (Q : VK) (E : XK), Room k (A.deeper (envOfC x (defScope st) s.heap.objs.size f cdv)) → sp vs H Q E →
      ∃ t, PSs (cxOf CX0 P w K mg base N x (defScope st) f cdv A outer s H E).nox (defBody st) t ∧ t { nx := fun _ H' => Q .non H', rt := Q } (start N vs) H) : Cl P w K mg base (k + 1) x sp := by
  obtain ⟨f, fd, F, hm, b⟩ := D.ex
  exact ⟨f, fd, ps, [], F.ok S len (fun cdv A outer s H vs Q E hr h => hbody f cdv A outer s H vs Q E hr h), hm, F.kp, b, .nil⟩
theorem clx_of {x : Str} {st : Stmt} {ps N : List Str} {k : Nat} {sp : Sp} (D : Dd K mg x st ps) (S : FnScope N ps (defScope st)) (len : ∀ vs H Q E, sp vs H Q E → vs.length = ps.length)
    (hbody : ∀ (f : Addr) (cdv : Value) (A : Around) (outer : List Env) (s : Shared) (H : Hp) (vs : List V) (Q : VK) (E : XK), Room k (A.deeper (envOfC x (defScope st) s.heap.objs.size f cdv)) → sp vs H Q E →
      ∃ t, PSs (cxOf (L2.CX P w) P w K mg base N x (defScope st) f cdv A outer s H E) (defBody st) t ∧ t { nx := fun _ H' => Q .non H', rt := Q } (start N vs) H) : ClX P w K mg base (k + 1) x sp := by
  obtain ⟨f, fd, F, hm, b⟩ := D.ex
  exact ⟨f, fd, ps, F.okX S len (fun cdv A outer s H vs Q E hr h => hbody f cdv A outer s H vs Q E hr h), hm, F.kp, b⟩
end
section
variable {X : Cx} {k j : Nat} {x : Str} {sp : Sp} {p pos : Pos} {e : Expr} {es : List Expr} {t : TA}
/-- f(e, ..) of a def that may raise, in a try's body or where it passes on -/
theorem pe_cx (c : ClX X.prog X.w X.K X.mg X.base k x sp) {E : L2.St → XK} (hr : Room j X.A) (hk : k ≤ j) (hx : ∀ σ, PassesAt (L2.CX X.prog X.w) X σ (E σ)) (hg : Gl X x) (ha : PA X (e :: es) t)
    (hdb : (x == ("__debug__" : Str)) = false := by decide) (he : starEach (e :: es) X.env = (false, eval e X.env) :: starEach es X.env := by rfl) (hpl : (backTo pos (starEach es X.env)).any (·.1) = false := by rfl) :
    PE X (.Call (.Name x p) (e :: es) [] pos) (tCallS sp E t) := by
  obtain ⟨f, fd, ps, F, hm, kp, b⟩ := c.ex
  exact pe_callS F (hr.mono hk) hg hm kp b hx ha hdb he hpl
end
theorem ixt {X : Cx} {K : PySem.W.Frag} (h : X.K = K := by rfl) : IxR X (rIxT K) := h ▸ ix_tup
theorem ixl {X : Cx} {K : PySem.W.Frag} (h : X.K = K := by rfl) : IxR X (rIxL K) := h ▸ ix_list
/-- a module's number -/
theorem pe_k {X : Cx} {x : Str} {pos : Pos} {v : Int} (h : ∃ t, X.mg x = some (.int v t)) (hg : Gl X x := by rfl) (hdb : (x == ("__debug__" : Str)) = false := by decide) : PE X (.Name x pos) (tC (.int v)) := by
  obtain ⟨t, h⟩ := h
  exact pe_glob hg h ⟨t, rfl⟩ hdb
/-! ### numbers drawn: a list of small numbers -/
def Dr (ns : List Int) : Prop := ns.length ≤ 4000 ∧ ∀ n ∈ ns, 0 ≤ n ∧ n < 65536
/-- r(draws, k, many): a number from 0 below many -/
def spDraw (K : PySem.W.Frag) : Sp := fun vs H Q _ => ∃ (a : Addr) (ns : List Int) (k many : Int), vs = [.ref a, .int k, .int many] ∧ SqL K H a (ns.map V.int) ∧ Dr ns ∧ 0 ≤ k ∧ k < 100000 ∧ 0 < many ∧ ∀ r : Int, 0 ≤ r → r < many → Q (.int r) H
theorem at_ints {ns : List Int} {i : Int} (h0 : 0 ≤ i) (h1 : i < ns.length) : ∃ z, atI (ns.map V.int) i = some (.int z) ∧ z ∈ ns := by
  obtain ⟨j, rfl⟩ : ∃ j : Nat, i = j := ⟨i.toNat, by omega⟩
  have hj : j < ns.length := by omega
  refine ⟨ns[j], ?_, List.getElem_mem hj⟩
  refine atI_nat ?_
  rw [List.getElem?_map, List.getElem?_eq_getElem hj]
  rfl
/-! ### heaps -/
theorem same_new {H : Hp} {p : Addr} {o : HO} (h : H p = none) : Same H (upd H p o) := fun b x e => by
  rw [upd_ne (ne_of_none e h)]
  exact e
theorem same_mut {H H' : Hp} {p : Addr} {o : HO} (e : Same H H') (h : H p = none) : Same H (upd H' p o) := fun b x hb => by
  rw [upd_ne (ne_of_none hb h)]
  exact e b x hb
theorem same_tup {K : PySem.W.Frag} {H H' : Hp} {a : Addr} {xs : List V} (e : Same H H') (h : SqT K H a xs) : SqT K H' a xs := by
  rcases h with (h | ⟨o, h⟩) | h
  · exact .inl (.inl (e _ _ h))
  · exact .inl (.inr ⟨o, e _ _ h⟩)
  · exact .inr h
/-! ### texts of letters -/
def okc (c : Nat) : Bool := decide (32 ≤ c) && (decide (c ≤ 126) && decide (c ≠ 37))
def IsLet (z : Str) : Prop := z.cps.toList.all okc = true
instance (z : Str) : Decidable (IsLet z) := inferInstanceAs (Decidable (_ = true))
theorem str_at {z : Str} {i : Int} (h0 : 0 ≤ i) (h1 : i < (z.cps.toList.length : Int)) : ∃ c, atI z.cps.toList i = some c ∧ c ∈ z.cps.toList := by
  obtain ⟨j, rfl⟩ : ∃ j : Nat, i = j := ⟨i.toNat, by omega⟩
  have hj : j < z.cps.toList.length := by omega
  exact ⟨z.cps.toList[j], atI_nat (List.getElem?_eq_getElem hj), List.getElem_mem hj⟩
theorem let_at {z : Str} {c : Nat} (h : IsLet z) (hc : c ∈ z.cps.toList) : IsLet ⟨#[c]⟩ := by
  have := List.all_eq_true.mp h c hc
  show ([c].all okc) = true
  simp [this]
theorem let_app {a b : Str} (ha : IsLet a) (hb : IsLet b) : IsLet (a ++ b) := by
  have e : (a ++ b).cps.toList = a.cps.toList ++ b.cps.toList := TL.tl_append a b
  show (a ++ b).cps.toList.all okc = true
  rw [e, List.all_append, Bool.and_eq_true]
  exact ⟨ha, hb⟩
theorem len_app (a b : Str) : (a ++ b).length = a.length + b.length := by
  have e : (a ++ b).cps.toList = a.cps.toList ++ b.cps.toList := TL.tl_append a b
  have e2 := congrArg List.length e
  rw [List.length_append] at e2
  simpa [Str.length] using e2
theorem at_map {α : Type} (f : α → V) {xs : List α} {i : Int} (h0 : 0 ≤ i) (h1 : i < xs.length) : ∃ x, atI (xs.map f) i = some (f x) ∧ x ∈ xs := by
  obtain ⟨j, rfl⟩ : ∃ j : Nat, i = j := ⟨i.toNat, by omega⟩
  have hj : j < xs.length := by omega
  refine ⟨xs[j], ?_, List.getElem_mem hj⟩
  refine atI_nat ?_
  rw [List.getElem?_map, List.getElem?_eq_getElem hj]
  rfl
theorem ixs_let {z : Str} {j : Int} {H : Hp} {Q : VK} (hz : IsLet z) (hl : z.length ≤ sizeLine) (h0 : 0 ≤ j) (h1 : j < (z.cps.toList.length : Int)) (h : ∀ c, okc c = true → Q (.str ⟨#[c]⟩) H) : rIxS (.str z) (.int j) H Q := by
  obtain ⟨c, hc, hm⟩ := str_at h0 h1
  exact ⟨z, j, c, rfl, rfl, hl, hc, h c (List.all_eq_true.mp hz c hm)⟩
theorem let_one {c : Nat} (h : okc c = true) : IsLet ⟨#[c]⟩ := by
  show ([c].all okc) = true
  simp [h]
/-! ### houses: pairs of a number and a text, each at its address -/
abbrev PL := List (Addr × Int × Str)
def refs (L : PL) : List V := L.map fun q => V.ref q.1
def PairsAt (K : PySem.W.Frag) (H : Hp) (L : PL) : Prop := ∀ q ∈ L, SqT K H q.1 [.int q.2.1, .str q.2.2]
def HsAt (K : PySem.W.Frag) (H : Hp) (a : Addr) (L : PL) : Prop := SqL K H a (refs L) ∧ PairsAt K H L
theorem PairsAt.same {K : PySem.W.Frag} {H H' : Hp} {L : PL} (e : Same H H') (h : PairsAt K H L) : PairsAt K H' L := fun q hq => same_tup e (h q hq)
theorem HsAt.same {K : PySem.W.Frag} {H H' : Hp} {a : Addr} {L : PL} (e : Same H H') (h : HsAt K H a L) : HsAt K H' a L := ⟨e.seq h.1, h.2.same e⟩
/-- numbers ascending from 0 to 99, texts of at most m letters -/
structure IsHs (m : Nat) (h : List (Int × Str)) : Prop where
  asc : (h.map (·.1)).Pairwise (· < ·)
  num : ∀ q ∈ h, 0 ≤ q.1 ∧ q.1 ≤ 99
  txt : ∀ q ∈ h, IsLet q.2 ∧ q.2.length ≤ m
/-- == of data, the frame said -/
theorem op_eqDK {X : Cx} {K : PySem.W.Frag} (hu : X.A.units + 64 < cLine) (h : X.K = K := by rfl) : OpR X (compareOp .Eq) (rEqD K) := h ▸ op_eqD hu
theorem op_neDK {X : Cx} {K : PySem.W.Frag} (hu : X.A.units + 64 < cLine) (h : X.K = K := by rfl) : OpR X (compareOp .NotEq) (rNeD K) := h ▸ op_neD hu
end SH
set_option Elab.async false
set_option linter.all false
set_option maxRecDepth 100000
set_option maxHeartbeats 4000000
/-! except clauses, any number, with and without a name -/
namespace SH
open PySem PySem.Spec PyProof.Rows L2
abbrev Suite := Addr → Value → Option Addr → TS
/-- behind a suite whose name is forgotten -/
def gone (i : Nat) (D : Ends) : Ends :=
  ⟨fun τ G => D.nx (τ.set i none) G, D.rt, fun τ G => D.bk (τ.set i none) G, fun τ G => D.ct (τ.set i none) G⟩
/-- how a suite is entered: with its name in slot i, or without one -/
def enter (o : Option Nat) (ts : Suite) (a : Addr) (c : Value) (d : Option Addr) (D : Ends) (τ : L2.St) (G : Hp) : Prop :=
  match o with
  | none => ts a c d D τ G
  | some i => ts a c d (gone i D) (τ.set i (some (.ref a))) G
/-- the clauses' wishes: the first that matches -/
def wHds (K : PySem.W.Frag) (Wo : WX) (D : Ends) : List (Value × Option Nat × Suite) → WX
  | [] => Wo
  | q :: r => fun c d τ G => ∃ b, PySem.W.exmOne K c q.1 = some b ∧ (b = true → ∀ a, G a = none → enter q.2.1 q.2.2 a c d D τ G) ∧ (b = false → wHds K Wo D r c d τ G)
/-- a suite's text does what ts says -/
def SuiteOk (X : Cx) (sts : List Stmt) (ts : Suite) : Prop :=
  ∀ (a : Addr) (o : Obj) (c : Value) (d : Option Addr) (l : List (Addr × Obj)), Zc c d o → (∃ f, o.data = .fields f) → PSs (X.suite a ((a, o) :: l)) sts (ts a c d)
inductive HdsN (X : Cx) : List ExceptHandler → List (Value × Option Nat × Suite) → Prop
  | nil : HdsN X [] []
  | cons {x : Str} {c : Value} {ts : Suite} {u : Stmt} {us : List Stmt} {p p' : Pos} {hs : List ExceptHandler} {l : List (Value × Option Nat × Suite)} :
      Names X x c → SuiteOk X (u :: us) ts → HdsN X hs l → HdsN X (.ExceptHandler (some (.Name x p)) none (u :: us) p' :: hs) ((c, none, ts) :: l)
  | named {x n : Str} {i : Nat} {c : Value} {ts : Suite} {u : Stmt} {us : List Stmt} {p p' : Pos} {hs : List ExceptHandler} {l : List (Value × Option Nat × Suite)} :
      Names X x c → X.N.Nodup → X.N[i]? = some n → X.env.kindOf n = some .local → SuiteOk X (u :: us) ts → HdsN X hs l → HdsN X (.ExceptHandler (some (.Name x p)) (some n) (u :: us) p' :: hs) ((c, some i, ts) :: l)
/-- an exception that has come down to this frame: at a, of the class c, with its dict d, over the ground B -/
structure Down (X : Cx) (pins : List (Addr × Obj)) (B : Heap) (a : Addr) (c : Value) (d : Option Addr) (τ : L2.St) (G : Hp) (s : Shared) : Prop where
  st : X.stack = X.env :: X.outer
  fr : X.env.frame = some X.env.locals
  fl : HandSPX.FlyingZ B (X.env :: X.outer) a (Zc c d) s.heap
  on : ∀ h, B.StaysIn h → s.heap.UpToSlots h → Inv X pins τ G { s with heap := h }
  ok : Inv X pins τ G s
  no : G a = none
  out : ∀ (h : Heap) (W : WX), HandSPX.HeldZ B (X.env :: X.outer) a (Zc c d) X.env.locals h → s.heap.UpToSlots h → W c d τ G → XE X W (.ref a) { s with heap := h }
section
variable {X : Cx} {pins : List (Addr × Obj)} {B : Heap} {a : Addr} {c : Value} {d : Option Addr} {τ : L2.St} {G : Hp} {s : Shared}
theorem Down.inner (Y : Down X pins B a c d τ G s) : ∃ o, s.heap.get? a = some o ∧ Zc c d o ∧ (∃ f, o.data = .fields f) ∧ Inv (X.suite a ((a, o) :: (X.pn ++ pins))) [] τ G s := by
  obtain ⟨o, f, ga, za, da⟩ := Y.fl.there
  have away : a ∉ frs (X.env :: X.outer) := by
    intro m
    obtain ⟨-, o', g', nf⟩ := Y.fl.2.2.1.mem m
    cases ga.symm.trans g'
    exact nf _ da
  refine ⟨o, ga, za, ⟨f, da⟩, Y.ok.suite ga da Y.no ?_ ?_⟩
  · intro z
    refine away (List.mem_filterMap.mpr ⟨X.env, List.mem_cons_self, ?_⟩)
    rw [Y.fr, z]
  · intro m
    obtain ⟨e, me, q⟩ := List.mem_filterMap.mp m
    exact away (List.mem_filterMap.mpr ⟨e, List.mem_cons_of_mem _ me, q⟩)
/-- the clause's name is asked, and whether the exception is of it -/
theorem Down.asked (Y : Down X pins B a c d τ G s) {x : Str} {p : Pos} {cl : Value} {b : Bool} (nm : Names X x cl) (hb : PySem.W.exmOne X.K c cl = some b) {Q : Bool → Shared → Prop} {E : Value → Shared → Prop} (q : Q b s) :
    wpAny (model X.prog X.w) (X.A.mark (some (.ref a))) (eval (.Name x p) X.env) (fun u s1 => wpAny (model X.prog X.w) (X.A.mark (some (.ref a))) (excMatches (.ref a) u) Q E s1) E s := by
  obtain ⟨o, ga, za, -, S⟩ := Y.inner
  have ty : PySem.W.Looks (model X.prog X.w) s.heap (typeOf (.ref a)) c := fun _ _ _ _ k z => wpAny_typeOf_ref (k _ _ ga) (by rw [za.1]; exact z)
  have mt := (PySem.W.exm_one (M := model X.prog X.w) Y.ok.kIn ty hb).here (A := X.A.mark (some (.ref a))) (Q := Q) (E := E) q
  obtain ⟨g, nd, hm | ⟨hm, hv, nn⟩⟩ := nm
  · exact ld_glob (X := X.suite a ((a, o) :: (X.pn ++ pins))) S g hm mt nd
  · exact ld_blt (X := X.suite a ((a, o) :: (X.pn ++ pins))) S g hm hv mt nn nd
/-- once more at the suite's beginning -/
theorem Down.again (Y : Down X pins B a c d τ G s) {h : Heap} (f : HandSPX.FlyingZ B (X.env :: X.outer) a (Zc c d) h) (u : s.heap.UpToSlots h) : Down X pins B a c d τ G { s with heap := h } :=
  ⟨Y.st, Y.fr, f, fun g k v => Y.on g k (u.trans v), Y.on h f.1 u, Y.no, fun g W k v w => Y.out g W k (u.trans v) w⟩
theorem Down.handle (Y : Down X pins B a c d τ G s) {D : Ends} {Wo : WX} (tk : Takes X Wo) {hs : List ExceptHandler} {l : List (Value × Option Nat × Suite)} (hk : HdsN X hs l) :
    wHds X.K Wo D l c d τ G → wpAny (model X.prog X.w) X.A (handleBy (.ref a) X.env hs) (SP X pins D) X.xe s := by
  induction hk with
  | nil =>
    intro wish
    refine wpAny_handleBy_nil ?_
    obtain ⟨-, -, -, o, f, T, -, -, go, -, dat, f1, -⟩ := id Y.fl
    unfold PySem.passOn
    refine wpAny_bind (wpAny_field go dat f1 ?_)
    rw [if_neg (by simp : ¬ ((Value.ref T == Value.none) = true))]
    have up : wpAny (model X.prog X.w) X.A (setFlight (.ref a) X.env.frame) (fun _ s4 => wpAny (model X.prog X.w) X.A (throw (.ref a) : Sem Flow) (SP X pins D) X.xe s4) X.xe s := by
      rw [Y.fr]
      exact HandSPX.setFlight_upZ Y.fl fun h held u => wpAny_throw (tk _ _ (Y.out h _ held u wish))
    first
      | exact wpAny_bind (wpAny_pure (wpAny_bind up))
      | exact wpAny_bind up
  | @cons x cl ts u us p p' hs l nm so r ih =>
    rintro ⟨b, hb, yes, no⟩
    refine wpAny_handleBy_cons (codeAny_handlers_test (Y.asked nm hb ?_)) (fun z => nomatch z)
    match b, yes, no with
    | false, _, no => exact ih (no rfl)
    | true, yes, _ =>
      refine codeAny_handlers_suite (HandSPX.lands_againZ Y.fl fun h f v => ?_)
      obtain ⟨o, -, zo, fo, S⟩ := (Y.again f v).inner
      refine wpAny_mono ((so a o c d (X.pn ++ pins) zo fo).run [] _ _ G _ S (yes rfl a Y.no)) ?_ (fun _ _ z => z.elim)
      intro g s6 hsp
      match g, hsp with
      | .next, ⟨τ6, G6, S6, z⟩ => exact ⟨τ6, G6, S6.unsuite Y.ok.ok, z⟩
      | .brk, ⟨τ6, G6, S6, z⟩ => exact ⟨τ6, G6, S6.unsuite Y.ok.ok, z⟩
      | .cont, ⟨τ6, G6, S6, z⟩ => exact ⟨τ6, G6, S6.unsuite Y.ok.ok, z⟩
      | .ret u, ⟨v6, τ6, G6, S6, r6, z⟩ => exact ⟨v6, τ6, G6, S6.unsuite Y.ok.ok, r6, z⟩
  | @named x n i cl ts u us p p' hs l nm hN hi ho so r ih =>
    rintro ⟨b, hb, yes, no⟩
    refine wpAny_handleBy_cons (codeAny_handlers_test (Y.asked nm hb ?_)) (fun z => nomatch z)
    match b, yes, no with
    | false, _, no => exact ih (no rfl)
    | true, yes, _ =>
      refine codeAny_handlers_suite_as (HandSPX.lands_againZ Y.fl fun h f v => ?_)
      obtain ⟨o, -, zo, fo, S⟩ := (Y.again f v).inner
      refine store_ok (X := X.suite a ((a, o) :: (X.pn ++ pins))) (v := .ref a) S hN hi (.inl ho) rfl (fun s5 S5 => ?_) (.inr ho)
      refine wpAny_mono ((so a o c d (X.pn ++ pins) zo fo).run [] s5 _ G _ S5 (yes rfl a Y.no)) ?_ (fun _ _ z => z.elim)
      intro g s6 hsp
      match g, hsp with
      | .next, ⟨τ6, G6, S6, z⟩ => exact gone_ok (S6.unsuite Y.ok.ok) hN hi ho fun s7 J => ⟨τ6.set i none, G6, J, z⟩
      | .brk, ⟨τ6, G6, S6, z⟩ => exact gone_ok (S6.unsuite Y.ok.ok) hN hi ho fun s7 J => ⟨τ6.set i none, G6, J, z⟩
      | .cont, ⟨τ6, G6, S6, z⟩ => exact gone_ok (S6.unsuite Y.ok.ok) hN hi ho fun s7 J => ⟨τ6.set i none, G6, J, z⟩
      | .ret u, ⟨v6, τ6, G6, S6, r6, z⟩ => exact gone_ok (S6.unsuite Y.ok.ok) hN hi ho fun s7 J => ⟨v6, τ6.set i none, G6, J, r6, z⟩
end
/-- try: body, any clauses -/
theorem ps_try_hds {X : Cx} {body : List Stmt} {h₀ : ExceptHandler} {hs : List ExceptHandler} {l : List (Value × Option Nat × Suite)} {pos : Pos} {tb : WX → TS} {Wo : WX}
    (st : X.stack = X.env :: X.outer) (fr : X.env.frame = some X.env.locals) (tk : Takes X Wo)
    (bo : ∀ (W : WX) (pn : List (Addr × Obj)) (xe : Value → Shared → Prop), Takes (X.tr pn xe) W → PassesOwn (model X.prog X.w) X.A X.env xe → PSs (X.tr pn xe) body (tb W))
    (hk : HdsN X (h₀ :: hs) l) : PS X (.Try body (h₀ :: hs) [] [] pos) (fun D τ G => tb (wHds X.K Wo D l) D τ G) := by
  constructor
  intro pins s τ G D I q
  have ok := I.ok
  refine wpAny_Try_except (wpAny_mono ((bo (wHds X.K Wo D l) (X.pn ++ pins) _ ?_ PassesOwn.looking).run [] s τ G D (I.toTry _) q) (fun f s1 r => ?_) (fun e s1 r => r))
  · rintro u s2 ⟨a, B, sI, pins', τ2, G2, c, d, rfl, J', nb, up, sky, na, os, ag, wish⟩
    have J := J'.ofTry ok
    have sky2 : Sky B (X.env :: X.outer) a (Zc c d) X.env.locals s2.heap := st ▸ sky
    refine Sky.land Zc.steady (by rw [ok.frames, st]) fr sky2 (fun h f v => ?_)
    refine Down.handle (B := B) (a := a) (c := c) (d := d) (τ := τ2) (G := G2) (s := { s2 with heap := h }) ⟨st, fr, f, fun g k z => J.landed nb k ((up.trans v).trans z) os ag, J.landed nb f.1 (up.trans v) os ag, na, fun g W k z w => ?_⟩ tk hk wish
    exact ⟨a, B, sI, pins, τ2, G2, c, d, rfl, J, nb, (up.trans v).trans z, .inr (.inr (by rw [st]; exact k)), na, os, ag, w⟩
  · match f, r with
    | .next, ⟨τ2, G2, J, z⟩ => exact wpAny_execs_nil ⟨τ2, G2, J.ofTry ok, z⟩
    | .brk, ⟨τ2, G2, J, z⟩ => exact ⟨τ2, G2, J.ofTry ok, z⟩
    | .cont, ⟨τ2, G2, J, z⟩ => exact ⟨τ2, G2, J.ofTry ok, z⟩
    | .ret u, ⟨v, τ2, G2, J, r2, z⟩ => exact ⟨v, τ2, G2, J.ofTry ok, r2, z⟩
end SH
set_option Elab.async false
set_option linter.all false
set_option maxRecDepth 100000
set_option maxHeartbeats 4000000
/-! errors with a number: made by the base's __init__, raised, caught, asked for their number -/
namespace SH
open PySem PySem.Spec PyProof.Rows L2
/-- numbers that an error is made with here -/
def Small (n : Int) : Prop := n.natAbs < 2 ^ 200
theorem small_bits {n : Int} (h : Small n) : decide ((1000 : Int) < ((Builtin.Int.intBits n : Nat) : Int)) = false := by
  have a := PySem.Flt.log2_lt_of (by decide : 0 < 200) h
  have b : Builtin.Int.intBits n ≤ n.natAbs.log2 + 1 := by
    unfold Builtin.Int.intBits
    split <;> omega
  refine decide_eq_false ?_
  omega
theorem small_of {n : Int} (h0 : -1000000 ≤ n) (h1 : n ≤ 1000000) : Small n := Nat.lt_of_le_of_lt (by omega : n.natAbs ≤ 1000000) (by decide)
/-- __init__(self, at) at a new exception: its dict gets the number -/
def spInitAt (K : PySem.W.Frag) : Sp := fun vs H Q _ => ∃ (a C : Addr) (n : Int), vs = [.ref a, .int n] ∧ OexC K C ∧ PySem.W.findIn K (.ref C) "at" = some none ∧ Small n ∧ H a = some (exo a C none) ∧
  ∀ dx : Addr, H dx = none → dx ≠ a → Q .non (upd (upd H dx (exd dx [(("at" : Str), .int n)])) a (exo a C (some dx)))
/-- what the top says of an error's class -/
structure ErrC (K : PySem.W.Frag) (mg : Str → Option Value) (x : Str) (C fI : Addr) : Prop where
  g : mg x = some (.ref C)
  o : OexC K C
  i : PySem.W.findIn K (.ref C) "__init__" = some (some (.ref fI))
  no : PySem.W.findIn K (.ref C) "at" = some none
  f : XfC K C
/-- .. and of the __init__ -/
structure InitOk (P : Program) (w : World) (K : PySem.W.Frag) (mg : Str → Option Value) (base : Heap) (fI : Addr) : Prop where
  ex : ∃ fd : FuncData, FnOk P w K mg base CX0 1 fI fd ["self", "at"] (spInitAt K) ∧ Binds K fd ["self", "at"] [] ∧ PySem.W.typeIn K (.ref fI) = some (.type "function")
/-- .. as it stands in the text -/
structure DdI (K : PySem.W.Frag) (q : Str) (st : Stmt) (fI : Addr) : Prop where
  ex : ∃ fd : FuncData, Fun K "__init__" q st fI fd ∧ Binds K fd ["self", "at"] [] ∧ PySem.W.typeIn K (.ref fI) = some (.type "function")
section
variable {X : Cx} {k : Nat} {x : Str} {C fI : Addr} {e : Expr} {ta : TA} {p pos : Pos}
/-- x(e): a new error of the class at C -/
theorem pmk_at (T : ErrC X.K X.mg x C fI) (I : InitOk X.prog X.w X.K X.mg X.base fI) (hr : Room k X.A) (hk : 2 ≤ k) (hg : Gl X x) (ha : PA X (e :: []) ta)
    (hd : (x == ("__debug__" : Str)) = false := by decide) (he : starEach (e :: []) X.env = (false, eval e X.env) :: starEach [] X.env := by rfl) (hp : (backTo pos (starEach [] X.env)).any (·.1) = false := by rfl) :
    PMk X (.Call (.Name x p) (e :: []) [] pos) (tMkO C (spInitAt X.K) [] ta) := by
  obtain ⟨fd, F, b, t⟩ := I.ex
  exact pmk_oex T.o T.i t F (hr.mono hk) b .nil pass0 hg T.g ha hd he hp
end
/-- the reading of a made error, behind its argument -/
theorem mk_at {K : PySem.W.Frag} {C : Addr} {H1 : Hp} {n : Int} {Q : XK} (To : OexC K C) (Tn : PySem.W.findIn K (.ref C) "at" = some none) (hs : Small n)
    (go : ∀ (d : Addr) (H2 : Hp), Same H1 H2 → H1 d = none → H2 d = some (.xd [(("at" : Str), .int n)]) → Q (.ref C) (some d) H2) :
    [V.int n].length ≤ 1000 ∧ ∀ a, H1 a = none → spInitAt K (.ref a :: ([V.int n] ++ [])) (upd H1 a (exo a C none))
      (fun v H2 => v = .non ∧ ∃ (d : Addr) (fs : List (Str × V)), H2 a = some (exo a C (some d)) ∧ H2 d = some (exd d fs) ∧ H1 d = none ∧ Q (.ref C) (some d) (upd (del H2 a) d (.xd fs))) (fun _ _ _ => False) := by
  refine ⟨(by show 1 ≤ 1000; decide), fun a na => ⟨a, C, n, rfl, To, Tn, hs, upd_same, fun dx ndx ne => ⟨rfl, dx, [(("at" : Str), V.int n)], upd_same, ?_, ?_, ?_⟩⟩⟩
  · rw [upd_ne ne, upd_same]
  · rw [upd_ne ne] at ndx
    exact ndx
  · rw [upd_ne ne] at ndx
    refine go dx _ (fun b o hb => ?_) ndx upd_same
    have b1 : b ≠ dx := ne_of_none hb ndx
    have b2 : b ≠ a := ne_of_none hb na
    rw [upd_ne b1, del_ne b2, upd_ne b2, upd_ne b1, upd_ne b2]
    exact hb
theorem wHds_skip {K : PySem.W.Frag} {Wo : WX} {D : Ends} {q : Value × Option Nat × Suite} {r : List (Value × Option Nat × Suite)} {c : Value} {d : Option Addr} {τ : L2.St} {G : Hp} (h : PySem.W.exmOne K c q.1 = some false)
    (go : wHds K Wo D r c d τ G) : wHds K Wo D (q :: r) c d τ G := ⟨false, h, (fun z => Bool.noConfusion z), fun _ => go⟩
theorem wHds_take {K : PySem.W.Frag} {Wo : WX} {D : Ends} {q : Value × Option Nat × Suite} {r : List (Value × Option Nat × Suite)} {c : Value} {d : Option Addr} {τ : L2.St} {G : Hp} (h : PySem.W.exmOne K c q.1 = some true)
    (go : ∀ a, G a = none → enter q.2.1 q.2.2 a c d D τ G) : wHds K Wo D (q :: r) c d τ G := ⟨true, h, (fun _ => go), (fun z => Bool.noConfusion z)⟩
theorem exm_of {K : PySem.W.Frag} {C D : Addr} {b : Bool} (h1 : PySem.W.subIn K (.ref D) (.type "BaseException") = some true) (h2 : PySem.W.isClsIn K D = true) (h3 : PySem.W.typeIn K (.ref D) = some (.type "type"))
    (h4 : PySem.W.subIn K (.ref C) (.ref D) = some b) : PySem.W.exmOne K (.ref C) (.ref D) = some b := by
  have c1 : (PySem.W.subIn K (.ref D) (.type "BaseException") == some true) = true := by rw [h1]; rfl
  have c2 : ((PySem.W.clsIn K D).isSome && PySem.W.typeIn K (.ref D) == some (.type "type")) = true := by
    have h2' : (PySem.W.clsIn K D).isSome = true := h2
    rw [h3, h2']; rfl
  unfold PySem.W.exmOne
  rw [if_pos c1]
  show (if ((PySem.W.clsIn K D).isSome && PySem.W.typeIn K (.ref D) == some (.type "type")) = true then PySem.W.subIn K (.ref C) (.ref D) else none) = some b
  rw [if_pos c2]
  exact h4
end SH
set_option Elab.async false
set_option linter.all false
set_option maxRecDepth 100000
set_option maxHeartbeats 4000000
namespace SH
open PySem PySem.Spec PyProof.Rows L2
/-! comprehensions whose steps only add to the heap: RL tells what the list made so far is -/
/-- all but what stands at D is as it was -/
def But (D : Addr) (H H' : Hp) : Prop := ∀ b o, b ≠ D → H b = some o → H' b = some o
theorem but_upd {D : Addr} {H : Hp} {o : HO} : But D H (upd H D o) := fun b x n e => by
  rw [upd_ne n]
  exact e
theorem but_tup {K : PySem.W.Frag} {D t : Addr} {H H' : Hp} {l xs : List V} (hD : H D = some (.lst l)) (e : But D H H') (h : SqT K H t xs) : SqT K H' t xs := by
  rcases h with h | h
  · rcases h with h | h
    · refine Or.inl (Or.inl (e _ _ (fun z => ?_) h))
      rw [z, hD] at h
      cases h
    · obtain ⟨o, h⟩ := h
      refine Or.inl (Or.inr ⟨o, e _ _ (fun z => ?_) h⟩)
      rw [z, hD] at h
      cases h
  · exact Or.inr h
theorem but_pairs {K : PySem.W.Frag} {D : Addr} {H H' : Hp} {l : List V} {L : PL} (hD : H D = some (.lst l)) (e : But D H H') (h : PairsAt K H L) : PairsAt K H' L := fun q hq => but_tup hD e (h q hq)
section
variable {J : It} {n : Nat} {G : Hp → Prop} {Y : Nat → Hp → V → Hp → Prop}
theorem lc_w (w : Walk J n G Y) {g : TG} {tt : TT} {te : TE} {vs : List Nat} {τ : L2.St} {H1 : Hp} {D : Addr} {Qd : Hp → Prop} (hD : H1 D = none) (hn : n ≤ 100000) (hG : ∀ H, Same H1 H → G H)
    (RL : Nat → List V → Hp → Prop) (h0 : ∀ H, Same H1 H → RL 0 [] H) (mono : ∀ i acc H H' l, H D = some (.lst l) → But D H H' → RL i acc H → RL i acc H')
    (hY : ∀ i H x H', Y i H x H' → Same H H')
    (hs : ∀ (i : Nat) (x : V) (acc : List V) (H H' : Hp) (Qn : VK) (Qf : Hp → Prop), i < n → Same H1 H' → Y i H x H' → RL i acc H' → H' D = some (.lst acc) → (∀ y H4, Same H' H4 → RL (i + 1) (acc ++ [y]) H4 → Qn y H4) → (∀ H3, Same H' H3 → RL (i + 1) acc H3 → Qf H3) →
      g x (wipe τ vs) H' fun τ2 H2 => wipe τ2 vs = wipe τ vs ∧ tt τ2 H2 fun b H3 => if b = true then te τ2 H3 Qn else Qf H3)
    (hd : ∀ acc H, Same H1 H → H D = some (.lst acc) → acc.length ≤ n → RL n acc H → Qd H) :
    ∃ W : Nat → Nat → Hp → Prop, (∃ m, W 0 m (upd H1 D (.lst []))) ∧ ∀ i m H, W i m H →
      (J.stop i H ∧ Qd H) ∨ (J.go i H ∧ ∃ Nx : Hp → Prop, (∀ H', Nx H' → ∃ m', m' < m ∧ W (i + 1) m' H') ∧ ∀ x H', J.yld i H x H' → g x (wipe τ vs) H' fun τ2 H2 => wipe τ2 vs = wipe τ vs ∧ tt τ2 H2 fun b H3 =>
        if b = true then te τ2 H3 fun y H4 => ∃ acc, H4 D = some (.lst acc) ∧ acc.length < sizeLine ∧ Nx (upd H4 D (.lst (acc ++ [y]))) else Nx H3) := by
  refine lc_it w (fun i H => ∃ acc, Same H1 H ∧ H D = some (.lst acc) ∧ acc.length ≤ i ∧ RL i acc H) ⟨[], same_new hD, upd_same, Nat.le_refl _, h0 _ (same_new hD)⟩ (fun i H _ p => ?_) (fun i x H H' hi p y => ?_) (fun H p => ?_)
  · obtain ⟨acc, e, _⟩ := p
    exact hG H e
  · obtain ⟨acc, e, at_, hl, r⟩ := p
    have e1 := hY i H x H' y
    have at1 := e1 _ _ at_
    refine hs i x acc H H' _ _ hi (e.trans e1) y (mono i acc H H' acc at_ (fun b o _ h => e1 b o h) r) at1 (fun z H4 e2 r2 => ?_) (fun H3 e2 r2 => ?_)
    · have at2 := e2 _ _ at1
      refine ⟨acc, at2, Nat.lt_of_le_of_lt (Nat.le_trans hl (Nat.le_of_lt (Nat.lt_of_lt_of_le hi hn))) (by decide), acc ++ [z], same_mut ((e.trans e1).trans e2) hD, upd_same, by simp; omega, mono _ _ H4 _ acc at2 but_upd r2⟩
    · exact ⟨acc, (e.trans e1).trans e2, e2 _ _ at1, by omega, r2⟩
  · obtain ⟨acc, e, at_, hl, r⟩ := p
    exact hd acc H e at_ hl r
end
/-! ### numbers and texts -/
theorem lt1 (c d : Nat) : decide (([c] : List Nat) < [d]) = decide (c < d) := by
  by_cases h : c < d
  · rw [decide_eq_true h]
    exact decide_eq_true (List.Lex.rel h)
  · rw [decide_eq_false h]
    refine decide_eq_false fun z => ?_
    cases z with
    | rel q => exact h q
    | cons q => cases q
/-- a text of the document: not too long, of letters -/
def isTxt (z : Str) : Bool := decide (z.length ≤ 40) && z.cps.toList.all okc
/-- a house of the document, behind a number -/
def chk (before : Int) : List (Int × Str) → Bool
  | [] => true
  | q :: r => decide (before < q.1) && decide (q.1 ≤ 99) && isTxt q.2 && chk q.1 r
def isH (h : List (Int × Str)) : Bool := decide (h.length ≤ 8) && chk (-1) h
theorem chk_of {m : Nat} (hm : m ≤ 40) : ∀ (h : List (Int × Str)) (b : Int), (∀ q ∈ h, b < q.1) → IsHs m h → chk b h = true
  | [], _, _, _ => rfl
  | q :: r, b, hb, a => by
    have t := a.txt q (List.mem_cons_self ..)
    have n := a.num q (List.mem_cons_self ..)
    have asc := a.asc
    rw [List.map_cons, List.pairwise_cons] at asc
    have ih := chk_of hm r q.1 (fun x hx => asc.1 x.1 (List.mem_map_of_mem hx)) ⟨asc.2, fun x hx => a.num x (List.mem_cons_of_mem _ hx), fun x hx => a.txt x (List.mem_cons_of_mem _ hx)⟩
    show (decide (b < q.1) && decide (q.1 ≤ 99) && isTxt q.2 && chk q.1 r) = true
    have e1 := hb q (List.mem_cons_self ..)
    have e2 : isTxt q.2 = true := by
      unfold isTxt
      rw [decide_eq_true (Nat.le_trans t.2 hm)]
      exact t.1
    rw [ih, e2, decide_eq_true e1, decide_eq_true n.2]
    rfl
end SH
set_option Elab.async false
set_option linter.all false
set_option maxRecDepth 100000
set_option maxHeartbeats 4000000
/-! sorted(xs), xs a list of pairs of a number and a text; pairs with one number have one text -/
namespace SH
open PySem PySem.Spec PyProof.Rows L2
def NT (h : Heap) (v : Value) (p : Int × Str) : Prop := ∃ (a : Addr) (o : Obj) (t u : Tok) (c : Nat), v = .ref a ∧ h.get? a = some o ∧ o.cls = .type "tuple" ∧ o.data = .seq #[.int p.1 t, .str p.2 u] c
theorem NT.on {h h' : Heap} {v : Value} {p : Int × Str} (x : NT h v p) (k : ∀ b o, h.get? b = some o → o.cls = .type "tuple" → h'.get? b = some o) : NT h' v p := by
  obtain ⟨a, o, t, u, c, rfl, g, q, r⟩ := x
  exact ⟨a, o, t, u, c, rfl, k a o g q, q, r⟩
theorem nt_firsts {h : Heap} {k : Value → Int × Str} : ∀ (vs : List Value), (∀ v ∈ vs, NT h v (k v)) → ∃ fs, PySem.W.KatTups h vs fs ∧ fs.length = vs.length ∧ ∀ f ∈ fs, ∃ n t, f = Value.int n t
  | [], _ => ⟨[], PySem.W.KatTups.nil, rfl, fun _ m => nomatch m⟩
  | v :: r, x => by
    obtain ⟨fs, k1, k2, k3⟩ := nt_firsts r (fun u m => x u (List.mem_cons_of_mem _ m))
    obtain ⟨a, o, t, u, c, rfl, g, q, d⟩ := x v (List.mem_cons_self ..)
    refine ⟨_, PySem.W.KatTups.cons g q d rfl k1, by simp [k2], fun f m => ?_⟩
    rcases List.mem_cons.mp m with e | m
    · exact ⟨_, _, e⟩
    · exact k3 f m
def ltN (k : Value → Int × Str) (v u : Value) : Bool := decide ((k v).1 < (k u).1)
theorem ltN_swo (k : Value → Int × Str) : SrtO.Swo (ltN k) :=
  ⟨fun x y h => decide_eq_false (by have := of_decide_eq_true h; omega), fun x y z h1 h2 => decide_eq_false (by have a := of_decide_eq_false h1; have b := of_decide_eq_false h2; omega)⟩
section
variable {prog : Program} {w : World} {A : Around} {s : Shared}
theorem nt_cmp {vs : List Value} {k : Value → Int × Str} (hp : ∀ v ∈ vs, NT s.heap v (k v)) (one : ∀ v ∈ vs, ∀ u ∈ vs, (k v).1 = (k u).1 → (k v).2 = (k u).2) :
    SrtO.Cmp prog w A s (tuples' true) (fun p => p.1 ∈ vs) (SrtO.lt2 (ltN k)) := by
  rintro ⟨x, kx⟩ ⟨y, ky⟩ mp mq
  have same := one _ mp _ mq
  show wpAny (model prog w) A (keyLt' (tuples' true) x y) (fun r s' => s' = s ∧ r = decide ((k x).1 < (k y).1)) (fun _ _ => False) s
  obtain ⟨a, o, t, u, c, e, g, cl, d⟩ := hp _ mp
  obtain ⟨a', o', t', u', c', e', g', cl', d'⟩ := hp _ mq
  have ex : x = .ref a := e
  have ey : y = .ref a' := e'
  subst ex ey
  refine PySem.W.kat_lt g d g' d' (PySem.W.kat_cons (SeqAt.EqAt.int_int _ t _ t' prog w _ _ (PySem.W.kat_go (fun e1 => ?_) (fun e1 => ?_))))
  · have en : (k (.ref a)).1 = (k (.ref a')).1 := by simpa using e1
    have ez := same en
    refine PySem.W.kat_yes (PySem.W.kat_cons (SeqAt.EqAt.str_str _ u _ u' prog w _ _ (PySem.W.kat_go (fun _ => ?_) (fun e2 => ?_))))
    · refine PySem.W.kat_yes (PySem.W.kat_nil ⟨rfl, ?_⟩)
      rw [en]
      simp
    · rw [ez] at e2
      simp at e2
  · exact PySem.W.kat_no (oneLt_int ⟨rfl, rfl⟩)
theorem nt_sortable {a : Addr} {vs : List Value} {k : Value → Int × Str} (h0 : 0 < vs.length) (hp : ∀ v ∈ vs, NT s.heap v (k v)) (one : ∀ v ∈ vs, ∀ u ∈ vs, (k v).1 = (k u).1 → (k v).2 = (k u).2)
    (ha : ∀ o, s.heap.get? a = some o → o.cls ≠ .type "tuple") : SrtO.SortableO prog w A s a vs (ltN k) := by
  intro h' keep
  have hp' : ∀ v ∈ vs, NT h' v (k v) := fun v m => (hp v m).on fun b o g c => keep b o (fun z => ha o (z ▸ g) c) g
  obtain ⟨fs, f1, f2, f3⟩ := nt_firsts vs hp'
  refine ⟨tuples' true, fun Q E q => PySem.W.kat_kind (T := .type "int") f1 (by omega) (fun f m => ?_) (by rfl) ?_, nt_cmp hp' one⟩
  · obtain ⟨n, t, rfl⟩ := f3 f m
    exact PySem.W.Looks.now
  · have e : (Value.type "int" != Value.type "tuple") = true := by first | decide +kernel | rfl
    rw [e]
    exact q
end
/-- sorted(xs): a new list of the same pairs, by their numbers -/
def rSortNT (K : PySem.W.Frag) : List V → Hp → VK → Prop := fun vs H Q => ∃ (a : Addr) (L : PL), vs = [.ref a] ∧ HsAt K H a L ∧ (∀ q ∈ L, ∀ r ∈ L, q.2.1 = r.2.1 → q.2.2 = r.2.2) ∧
  ∀ (L' : PL) (p : Addr), L'.Perm L → L'.Pairwise (fun q r => q.2.1 ≤ r.2.1) → H p = none → Q (.ref p) (upd H p (.lst (refs L')))
/-- what stands at the address in a list of pairs -/
def atAddr (L : PL) (v : Value) : Int × Str := match v with
  | .ref a => match L.find? (fun q => q.1 == a) with
    | some q => q.2
    | none => (0, "")
  | _ => (0, "")
def addrOf : Value → Addr
  | .ref a => a
  | _ => 0
theorem atAddr_of {L : PL} (un : ∀ q ∈ L, ∀ r ∈ L, q.1 = r.1 → q.2 = r.2) {q : Addr × Int × Str} (hq : q ∈ L) : atAddr L (.ref q.1) = q.2 := by
  show (match L.find? (fun r => r.1 == q.1) with | some r => r.2 | none => (0, "")) = q.2
  cases e : L.find? (fun r => r.1 == q.1) with
  | some r =>
    have h1 := List.mem_of_find?_eq_some e
    have h2 := List.find?_some e
    exact un r h1 q hq (by simpa using h2)
  | none =>
    have := List.find?_eq_none.mp e q hq
    simp at this
section
variable {X : Cx}
theorem cr_sortNT : CallR X (.builtin "sorted") (rSortNT X.K) := by
  intro pins s τ H vs us Q I r h
  obtain ⟨a, L, rfl, hA, one, q⟩ := h
  obtain ⟨its, rv, hl, hz⟩ := I.list hA.1
  obtain ⟨u, rfl, ru⟩ := vals1 r
  obtain rfl : u = Value.ref a := ru
  obtain ⟨e1, e2⟩ := refs_back rv (fun x m => by
    obtain ⟨q, _, e⟩ := List.mem_map.mp m
    exact ⟨q.1, e.symm⟩)
  -- one address, one pair
  have un : ∀ q ∈ L, ∀ r ∈ L, q.1 = r.1 → q.2 = r.2 := fun q hq r hr e => by
    have z := I.tuple_inj (hA.2 q hq) (by rw [e]; exact hA.2 r hr)
    obtain ⟨x, n, t⟩ := q
    obtain ⟨y, m, t'⟩ := r
    simp at z
    show (n, t) = (m, t')
    rw [z.1, z.2]
  have mem : ∀ v ∈ its, ∃ q ∈ L, v = Value.ref q.1 := fun v hv => by
    obtain ⟨t, rfl⟩ := e2 v hv
    have m : V.ref t ∈ refs L := by
      rw [e1]
      exact List.mem_map.mpr ⟨_, hv, rfl⟩
    obtain ⟨q, hq, e⟩ := List.mem_map.mp m
    cases e
    exact ⟨q, hq, rfl⟩
  have nt : ∀ v ∈ its, NT s.heap v (atAddr L v) := fun v hv => by
    obtain ⟨q, hq, rfl⟩ := mem v hv
    rw [atAddr_of un hq]
    obtain ⟨i2, r2, ⟨o, g, c, n, d⟩, _⟩ := I.tuple (hA.2 q hq)
    obtain ⟨u1, u2, rfl, ⟨t1, rfl⟩, ⟨t2, rfl⟩⟩ := vals2 r2
    exact ⟨q.1, o, t1, t2, n, rfl, g, c, d⟩
  have one' : ∀ v ∈ its, ∀ u ∈ its, (atAddr L v).1 = (atAddr L u).1 → (atAddr L v).2 = (atAddr L u).2 := fun v hv u hu => by
    obtain ⟨q, hq, rfl⟩ := mem v hv
    obtain ⟨r, hr, rfl⟩ := mem u hu
    rw [atAddr_of un hq, atAddr_of un hr]
    exact one q hq r hr
  refine SrtO.sorted_ord (ltN_swo (atAddr L)) hl.isList (by rw [← rv.length]; exact hz) (fun h2 h₁ b hb kk => ?_) (fun out hs hb => ?_)
  · refine nt_sortable (s := { s with heap := h₁ }) (by omega) (fun v m => (nt v m).on fun c o g _ => (kk c o g).2) one' (fun o g c => ?_)
    have g' : some o = some (seqObj "list" its.toArray 0) := g.symm.trans hb
    cases g'
    exact absurd (Value.type.inj c) (by decide)
  · have mo : ∀ v ∈ out, ∃ q ∈ L, v = Value.ref q.1 := fun v hv => mem v (hb.perm.mem_iff.mp hv)
    -- the pairs in their new order
    let f : Value → Addr × Int × Str := fun v => (addrOf v, atAddr L v)
    have fq : ∀ q ∈ L, f (.ref q.1) = q := fun q hq => by
      show (q.1, atAddr L (.ref q.1)) = q
      rw [atAddr_of un hq]
    have hL : its.map f = L := by
      have z : (refs L).map (fun v => match v with | .ref t => f (.ref t) | _ => (0, 0, "")) = L := by
        unfold refs
        rw [List.map_map]
        calc L.map _ = L.map id := List.map_congr_left fun q hq => fq q hq
          _ = L := List.map_id L
      rw [e1, List.map_map] at z
      refine Eq.trans (List.map_congr_left fun v hv => ?_) z
      obtain ⟨q, _, rfl⟩ := mem v hv
      rfl
    have hp : (out.map f).Perm L := by
      rw [← hL]
      exact hb.perm.map f
    have hr : refs (out.map f) = out.map backV := by
      unfold refs
      rw [List.map_map]
      refine List.map_congr_left fun v hv => ?_
      obtain ⟨q, _, rfl⟩ := mo v hv
      rfl
    have hsrt : (out.map f).Pairwise (fun q r => q.2.1 ≤ r.2.1) := by
      rw [List.pairwise_map]
      refine List.Pairwise.imp (fun {x y} h => ?_) hs
      have := of_decide_eq_false h
      show (atAddr L x).1 ≤ (atAddr L y).1
      omega
    obtain ⟨n, hn⟩ := sortedAll_at s.heap its out.toArray
    have hd : s.heap.objs.size ≤ s.heap.objs.size + 1 := Nat.le_succ _
    refine ⟨.ref (s.heap.objs.size + 1), upd H (s.heap.objs.size + 1) (.lst (refs (out.map f))), I.laid (t' := s.toks) (fun b o g => sortedAll_old g) hd ⟨?_, out, n, ?_, hn⟩, rfl, q _ _ hp hsrt (I.hok.fresh hd)⟩
    · have e3 : (refs (out.map f)).length = (refs L).length := by
        unfold refs
        rw [List.length_map, List.length_map (as := L), hp.length_eq]
      rw [e3]
      exact hz
    · rw [hr]
      exact vals_back fun v hv => by
        obtain ⟨q, _, rfl⟩ := mo v hv
        exact ⟨q.1, rfl⟩
end
end SH
set_option Elab.async false
set_option linter.all false
set_option maxRecDepth 100000
set_option maxHeartbeats 4000000
/-! houses as data, compared -/
namespace SH
open PySem PySem.Spec PyProof.Rows L2
def dPair (q : Int × Str) : PyData := .tuple [.int q.1, .str q.2]
def dH (h : List (Int × Str)) : PyData := .list (h.map dPair)
theorem dp_refs {K : PySem.W.Frag} {H : Hp} : ∀ (L : PL), PairsAt K H L → DpAll K H (refs L) (L.map fun q => dPair q.2)
  | [], _ => .nil
  | q :: r, h => .cons (.tup (h q (List.mem_cons_self ..)) (.cons (.int _) (.cons (.str _) .nil))) (dp_refs r fun x m => h x (List.mem_cons_of_mem _ m))
theorem dp_house {K : PySem.W.Frag} {H : Hp} {a : Addr} {L : PL} (h : HsAt K H a L) : Dp K H (.ref a) (dH (L.map (·.2))) := by
  refine .lst h.1 ?_
  rw [List.map_map]
  exact dp_refs L h.2
theorem okc_lt {c : Nat} (h : okc c = true) : c < 127 := by
  unfold okc at h
  simp at h
  omega
theorem let_ok {z : Str} (h : IsLet z) : PyData.strOk z = true := by
  unfold PyData.strOk
  rw [← Array.all_toList]
  refine List.all_eq_true.mpr fun c hc => ?_
  have := okc_lt (List.all_eq_true.mp h c hc)
  exact decide_eq_true (by omega)
def LetAll (h : List (Int × Str)) : Prop := ∀ q ∈ h, IsLet q.2
theorem dH_lay : ∀ {h : List (Int × Str)}, LetAll h → PyData.canLayAll0 (h.map dPair) = true
  | [], _ => rfl
  | q :: r, a => by
    rw [List.map_cons, PyData.canLayAll0, dH_lay fun x m => a x (List.mem_cons_of_mem _ m)]
    simp [dPair, PyData.canLay0, PyData.canLayAll0, let_ok (a q (List.mem_cons_self ..))]
theorem dH_deep : ∀ (h : List (Int × Str)), PyData.depthAll (h.map dPair) ≤ 1
  | [] => Nat.zero_le _
  | q :: r => by
    rw [List.map_cons, PyData.depthAll]
    have := dH_deep r
    have e : PyData.depth (dPair q) = 1 := rfl
    rw [e]
    omega
theorem dH_shaped {h : List (Int × Str)} (a : LetAll h) : SeqAt.shaped (dH h) = true := by
  unfold SeqAt.shaped
  have e1 : (dH h).canLay0 = true := dH_lay a
  have e2 : (dH h).depth ≤ 64 := by
    show PyData.depthAll (h.map dPair) + 1 ≤ 64
    have := dH_deep h
    omega
  rw [e1, decide_eq_true e2]
  rfl
theorem dH_refl {h : List (Int × Str)} (a : LetAll h) : PyData.eqv (dH h) (dH h) = true := SeqAt.eqv_refl _ (show (dH h).canLay0 = true from dH_lay a)
/-- what is told or due: a tag and a thing -/
def dT (p : Str × PyData) : PyData := .tuple [.str p.1, p.2]
theorem dT_shaped {p : Str × PyData} (h1 : PyData.strOk p.1 = true) (h2 : p.2.canLay0 = true) (h3 : p.2.depth ≤ 60) : SeqAt.shaped (dT p) = true ∧ PyData.eqv (dT p) (dT p) = true := by
  have e1 : (dT p).canLay0 = true := by
    show (PyData.strOk p.1 && (p.2.canLay0 && true)) = true
    rw [h1, h2]
    rfl
  have e2 : (dT p).depth ≤ 64 := by
    show max 0 (max p.2.depth 0) + 1 ≤ 64
    omega
  refine ⟨?_, SeqAt.eqv_refl _ e1⟩
  unfold SeqAt.shaped
  rw [e1, decide_eq_true e2]
  rfl
theorem dH_depth (h : List (Int × Str)) : (dH h).depth ≤ 60 := by
  show PyData.depthAll (h.map dPair) + 1 ≤ 60
  have := dH_deep h
  omega
theorem isTxt_let {z : Str} (h : isTxt z = true) : IsLet z := by
  unfold isTxt at h
  exact (Bool.and_eq_true_iff.mp h).2
theorem IsHs.letAll {m : Nat} {h : List (Int × Str)} (a : IsHs m h) : LetAll h := fun q hq => (a.txt q hq).1
theorem LetAll.filter {h : List (Int × Str)} (a : LetAll h) (p : Int × Str → Bool) : LetAll (h.filter p) := fun q hq => a q (List.mem_filter.mp hq).1
theorem LetAll.app {h k : List (Int × Str)} (a : LetAll h) (b : LetAll k) : LetAll (h ++ k) := fun q hq => (List.mem_append.mp hq).elim (a q) (b q)
theorem letAll_ins {n : Int} {z : Str} {h : List (Int × Str)} (a : LetAll h) (b : IsLet z) : LetAll (h.filter (fun q => decide (q.1 < n)) ++ [(n, z)] ++ h.filter (fun q => decide (n < q.1))) :=
  ((a.filter _).app fun q hq => by rw [List.mem_singleton.mp hq]; exact b).app (a.filter _)
/-! a house that is none -/
theorem chk_true : ∀ {h : List (Int × Str)} {b : Int}, chk b h = true → (h.map (·.1)).Pairwise (· < ·) ∧ (∀ q ∈ h, b < q.1 ∧ q.1 ≤ 99 ∧ isTxt q.2 = true)
  | [], _, _ => ⟨List.Pairwise.nil, fun q hq => nomatch hq⟩
  | q :: r, b, h => by
    have h' : (decide (b < q.1) && decide (q.1 ≤ 99) && isTxt q.2 && chk q.1 r) = true := h
    simp only [Bool.and_eq_true, decide_eq_true_eq] at h'
    obtain ⟨⟨⟨h1, h2⟩, h3⟩, h4⟩ := h'
    obtain ⟨i1, i2⟩ := chk_true h4
    refine ⟨?_, fun x hx => ?_⟩
    · rw [List.map_cons, List.pairwise_cons]
      refine ⟨fun y hy => ?_, i1⟩
      obtain ⟨z, hz, rfl⟩ := List.mem_map.mp hy
      exact (i2 z hz).1
    · rcases List.mem_cons.mp hx with e | m
      · rw [e]; exact ⟨h1, h2, h3⟩
      · have := i2 x m
        exact ⟨by omega, this.2⟩
theorem isH_false {h : List (Int × Str)} (no : ¬ (h.length ≤ 8 ∧ (h.map (·.1)).Pairwise (· < ·) ∧ ∀ q ∈ h, -1 < q.1 ∧ q.1 ≤ 99 ∧ isTxt q.2 = true)) : isH h = false := by
  cases e : isH h with
  | false => rfl
  | true =>
    unfold isH at e
    obtain ⟨e1, e2⟩ := Bool.and_eq_true_iff.mp e
    exact absurd ⟨of_decide_eq_true e1, chk_true e2⟩ no
/-! ### a house filtered, pair by pair -/
theorem refs_get {L : PL} {i : Nat} {x : V} (h : (refs L)[i]? = some x) : ∃ t, L[i]? = some t ∧ t ∈ L ∧ x = .ref t.1 := by
  unfold refs at h
  rw [List.getElem?_map] at h
  cases e : L[i]? with
  | none => rw [e] at h; cases h
  | some t =>
    rw [e] at h
    cases h
    exact ⟨t, rfl, List.mem_of_getElem? e, rfl⟩
theorem lc_filter {K : PySem.W.Frag} {a : Addr} {L : PL} {g : TG} {tt : TT} {te : TE} {vs : List Nat} {τ : L2.St} {H1 : Hp} {D : Addr} {Qd : Hp → Prop} (hD : H1 D = none) (hA : HsAt K H1 a L) (hl : L.length ≤ 1000) (p : Addr × Int × Str → Bool)
    (hs : ∀ (q : Addr × Int × Str) (H' : Hp) (Qn : VK) (Qf : Hp → Prop), q ∈ L → Same H1 H' → (p q = true → Qn (.ref q.1) H') → (p q = false → Qf H') →
      g (.ref q.1) (wipe τ vs) H' fun τ2 H2 => wipe τ2 vs = wipe τ vs ∧ tt τ2 H2 fun b H3 => if b = true then te τ2 H3 Qn else Qf H3)
    (hd : ∀ H, Same H1 H → H D = some (.lst (refs (L.filter p))) → Qd H) :
    ∃ W : Nat → Nat → Hp → Prop, (∃ m, W 0 m (upd H1 D (.lst []))) ∧ ∀ i m H, W i m H →
      ((Itl K a).stop i H ∧ Qd H) ∨ ((Itl K a).go i H ∧ ∃ Nx : Hp → Prop, (∀ H', Nx H' → ∃ m', m' < m ∧ W (i + 1) m' H') ∧ ∀ x H', (Itl K a).yld i H x H' → g x (wipe τ vs) H' fun τ2 H2 => wipe τ2 vs = wipe τ vs ∧ tt τ2 H2 fun b H3 =>
        if b = true then te τ2 H3 fun y H4 => ∃ acc, H4 D = some (.lst acc) ∧ acc.length < sizeLine ∧ Nx (upd H4 D (.lst (acc ++ [y]))) else Nx H3) := by
  have rl : (refs L).length = L.length := List.length_map ..
  refine lc_w (walk_list (xs := refs L)) hD (by omega) (fun H' e => e.seq hA.1) (fun i acc _ => acc = refs ((L.take i).filter p)) (fun _ _ => rfl) (fun _ _ _ _ _ _ _ r => r) (fun i H x H' y => by rw [y.1]; exact Same.refl _)
    (fun i x acc H2 H3 Qn Qf hi sm y r at_ kn kf => ?_) (fun acc H2 sm at_ _ r => ?_)
  · obtain ⟨rfl, hx⟩ := y
    obtain ⟨t, ht, tm, rfl⟩ := refs_get hx
    refine hs t _ Qn Qf tm sm (fun e => kn _ _ (Same.refl _) ?_) (fun e => kf _ (Same.refl _) ?_)
    · rw [r, List.take_add_one, ht, List.filter_append]
      show _ = refs (_ ++ [t].filter p)
      rw [List.filter_cons_of_pos e]
      unfold refs
      rw [List.map_append]
      rfl
    · rw [r, List.take_add_one, ht, List.filter_append]
      show _ = refs (_ ++ [t].filter p)
      rw [List.filter_cons_of_neg (by rw [e]; decide), List.filter_nil, List.append_nil]
  · refine hd H2 sm ?_
    rw [at_, r, List.take_of_length_le (by omega)]
theorem HsAt.filter {K : PySem.W.Frag} {H : Hp} {L : PL} (h : PairsAt K H L) (p : Addr × Int × Str → Bool) : PairsAt K H (L.filter p) := fun q hq => h q (List.mem_filter.mp hq).1
theorem map_filter (L : PL) (p : Int × Str → Bool) : (L.filter fun q => p q.2).map (·.2) = (L.map (·.2)).filter p := by
  rw [List.filter_map]
  rfl
mutual
theorem dp_same {K : PySem.W.Frag} {H H' : Hp} (e : Same H H') : ∀ {d : PyData} {v : V}, Dp K H v d → Dp K H' v d
  | .none, _, h => by cases h; exact .non
  | .bool _, _, h => by cases h; exact .bl _
  | .int _, _, h => by cases h; exact .int _
  | .str _, _, h => by cases h; exact .str _
  | .list ds, _, h => by
    cases h with
    | lst s a => exact .lst (e.seq s) (dp_all_same e a)
  | .tuple ds, _, h => by
    cases h with
    | tup s a => exact .tup (same_tup e s) (dp_all_same e a)
  | .dict _, _, h => by cases h
theorem dp_all_same {K : PySem.W.Frag} {H H' : Hp} (e : Same H H') : ∀ {ds : List PyData} {vs : List V}, DpAll K H vs ds → DpAll K H' vs ds
  | [], _, h => by cases h; exact .nil
  | d :: ds, _, h => by
    cases h with
    | cons a b => exact .cons (dp_same e a) (dp_all_same e b)
end
/-! ### slices, texts of one letter joined -/
theorem cut_to (xs : List V) (k : Nat) : cutV xs none (some (k : Int)) = xs.take k := by
  unfold cutV
  rw [HT.sIx_none, HT.sIx_nat, List.drop_zero, Nat.sub_zero]
  rcases Nat.le_total k xs.length with h | h
  · rw [Nat.min_eq_left h]
  · rw [Nat.min_eq_right h, List.take_length, List.take_of_length_le h]
theorem joinL_len : ∀ (n c : Nat), (TL.joinL [] (List.replicate n [c])).length = n
  | 0, _ => rfl
  | 1, _ => rfl
  | n + 2, c => by
    show ([c] ++ ([] ++ TL.joinL [] (List.replicate (n + 1) [c]))).length = n + 2
    rw [List.nil_append, List.length_append, joinL_len (n + 1) c]
    show 1 + (n + 1) = n + 2
    omega
theorem join_len {n c : Nat} : (Txt.join "" (List.replicate n (⟨#[c]⟩ : Str))).length = n := by
  have e : (Txt.join "" (List.replicate n (⟨#[c]⟩ : Str))).cps.toList = TL.joinL [] (List.replicate n [c]) := by
    rw [TL.join_eq]
    refine (TL.tl_join "" _).trans ?_
    rw [List.map_replicate]
    rfl
  have e2 := congrArg List.length e
  rw [joinL_len] at e2
  exact e2
theorem joinL_mem {x : Nat} : ∀ (n c : Nat), x ∈ TL.joinL [] (List.replicate n [c]) → x = c
  | 0, _, h => by cases h
  | 1, _, h => by simpa [TL.joinL] using h
  | n + 2, c, h => by
    have h' : x ∈ [c] ++ ([] ++ TL.joinL [] (List.replicate (n + 1) [c])) := h
    rw [List.nil_append] at h'
    rcases List.mem_append.mp h' with m | m
    · exact List.mem_singleton.mp m
    · exact joinL_mem (n + 1) c m
theorem join_mem {n c x : Nat} (h : x ∈ (Txt.join "" (List.replicate n (⟨#[c]⟩ : Str))).cps.toList) : x = c := by
  have e : (Txt.join "" (List.replicate n (⟨#[c]⟩ : Str))).cps.toList = TL.joinL [] (List.replicate n [c]) := by
    rw [TL.join_eq]
    refine (TL.tl_join "" _).trans ?_
    rw [List.map_replicate]
    rfl
  rw [e] at h
  exact joinL_mem n c h
theorem isTxt_long {z : Str} (h : 40 < z.length) : isTxt z = false := by
  unfold isTxt
  rw [decide_eq_false (by omega)]
  rfl
theorem isTxt_line {z : Str} (h : 10 ∈ z.cps.toList) : isTxt z = false := by
  unfold isTxt
  have : z.cps.toList.all okc = false := by
    cases e : z.cps.toList.all okc with
    | false => rfl
    | true => exact absurd (List.all_eq_true.mp e 10 h) (by decide)
  rw [this, Bool.and_false]
end SH
set_option Elab.async false
set_option linter.all false
set_option maxRecDepth 100000
set_option maxHeartbeats 4000000
/-! own classes: their methods, a new instance -/
namespace SH
open PySem PySem.Spec PyProof.Rows L2
/-- a method as it stands -/
structure DdM (K : PySem.W.Frag) (C : Addr) (m qual : Str) (st : Stmt) (ps : List Str) : Prop where
  ex : ∃ (f : Addr) (fd : FuncData), Fun K m qual st f fd ∧ Meth K C m f ∧ Binds K fd ps []
structure DdMk (K : PySem.W.Frag) (C : Addr) (m qual : Str) (st : Stmt) (ps : List Str) : Prop where
  ex : ∃ (f : Addr) (fd : FuncData), Fun K m qual st f fd ∧ Mk K C f ∧ Binds K fd ps []
/-- e.f, the frame said -/
theorem pe_fldK {X : Cx} {K : PySem.W.Frag} {e : Expr} {f : Str} {pos : Pos} {ta : TE} (he : PE X e ta) (hb : attributeBase e f X.env (eval e X.env) = eval e X.env) (h : X.K = K := by rfl) : PE X (.Attribute e f pos) (tFld K ta f) := h ▸ pe_fld he hb
theorem cr_sortedPOK {X : Cx} {K : PySem.W.Frag} (h : X.K = K := by rfl) : CallR X (.builtin "sorted") (rSortedPO K) := h ▸ cr_sortedPO
theorem pi_listK {X : Cx} {K : PySem.W.Frag} {tg e : Expr} {te : TE} (he : PE X e te) (h : X.K = K := by rfl) : PI X tg e (iList K te) := h ▸ pi_list he
section
variable {P : Program} {w : World} {K : PySem.W.Frag} {mg : Str → Option Value} {base : Heap}
theorem met_of {C : Addr} {m qual : Str} {st : Stmt} {ps N : List Str} {k : Nat} {sp : Sp} (D : DdM K C m qual st ps) (c : Cls K C) (S : FnScope N ps (defScope st)) (len : ∀ vs H Q E, sp vs H Q E → vs.length = ps.length)
    (hbody : ∀ (f : Addr) (cdv : Value) (A : Around) (outer : List Env) (s : Shared) (H : Hp) (vs : List V) (Q : VK) (E : XK), Room k (A.deeper (envOfC qual (defScope st) s.heap.objs.size f cdv)) → sp vs H Q E →
      ∃ t, PSs (cxOf CX0 P w K mg base N qual (defScope st) f cdv A outer s H E).nox (defBody st) t ∧ t { nx := fun _ H' => Q .non H', rt := Q } (start N vs) H) : C8.Met P w K mg base (k + 1) C m sp [] := by
  obtain ⟨f, fd, F, me, b⟩ := D.ex
  exact ⟨f, fd, ps, [], c, me, F.ok S len (fun cdv A outer s H vs Q E hr h => hbody f cdv A outer s H vs Q E hr h), b, .nil⟩
theorem mak_of {x : Str} {C : Addr} {m qual : Str} {st : Stmt} {ps N : List Str} {k : Nat} {sp : Sp} (D : DdMk K C m qual st ps) (hm : mg x = some (.ref C)) (S : FnScope N ps (defScope st)) (len : ∀ vs H Q E, sp vs H Q E → vs.length = ps.length)
    (hbody : ∀ (f : Addr) (cdv : Value) (A : Around) (outer : List Env) (s : Shared) (H : Hp) (vs : List V) (Q : VK) (E : XK), Room k (A.deeper (envOfC qual (defScope st) s.heap.objs.size f cdv)) → sp vs H Q E →
      ∃ t, PSs (cxOf CX0 P w K mg base N qual (defScope st) f cdv A outer s H E).nox (defBody st) t ∧ t { nx := fun _ H' => Q .non H', rt := Q } (start N vs) H) : C8.Mak P w K mg base (k + 1) x C sp [] := by
  obtain ⟨f, fd, F, me, b⟩ := D.ex
  exact ⟨f, fd, ps, [], me, F.ok S len (fun cdv A outer s H vs Q E hr h => hbody f cdv A outer s H vs Q E hr h), hm, b, .nil⟩
end
end SH
set_option Elab.async false
set_option linter.all false
set_option maxRecDepth 100000
set_option maxHeartbeats 4000000
namespace SH
open PySem PySem.Spec PyProof.Rows L2
def topS (i : Nat) : Stmt := PySem.Challenge.pw_suffixhouse_k04_machines_of_houses.main.body.getD i (.Pass ⟨0, 0, 0, 0⟩)
abbrev s_machine : Stmt := topS 2
abbrev s_states : Stmt := topS 3
abbrev s_edge_count : Stmt := topS 4
abbrev s__renamed : Stmt := topS 5
abbrev s__law_draws : Stmt := topS 7
abbrev s__law_at : Stmt := topS 8
abbrev s__law_mix : Stmt := topS 10
abbrev s__law_letter : Stmt := topS 11
abbrev s__law_text : Stmt := topS 12
abbrev s__law_house : Stmt := topS 13
abbrev s__law_stands : Stmt := topS 14
abbrev s__law_words : Stmt := topS 15
abbrev s__law_ends : Stmt := topS 16
abbrev s__law_classes : Stmt := topS 17
abbrev s__law_edges : Stmt := topS 18
abbrev s__law_link : Stmt := topS 19
abbrev s__law_long : Stmt := topS 20
abbrev s_law : Stmt := topS 21
abbrev s_Growth___init__ : Stmt := inClass (topS 1) 0
abbrev s_Growth_linked : Stmt := inClass (topS 1) 1
abbrev s_Growth_pairs : Stmt := inClass (topS 1) 2
abbrev s_Growth_marked_edges : Stmt := inClass (topS 1) 3
abbrev s_Growth_least_size : Stmt := inClass (topS 1) 4
abbrev s_Growth__way_of : Stmt := inClass (topS 1) 5
abbrev s_Growth__after : Stmt := inClass (topS 1) 6
abbrev s_Growth__led_to : Stmt := inClass (topS 1) 7
abbrev s_Growth__add : Stmt := inClass (topS 1) 8
abbrev s_Growth__put_in_order : Stmt := inClass (topS 1) 9
abbrev s_Growth__in_breadth : Stmt := inClass (topS 1) 10
structure Ea where
  fI : Addr
  c_Growth : Addr
structure Txt (K : PySem.W.Frag) (mg : Str → Option Value) (ea : Ea) : Prop where
  b_abs : mg "abs" = none
  b_bool : mg "bool" = none
  b_dict : mg "dict" = none
  b_enumerate : mg "enumerate" = none
  b_int : mg "int" = none
  b_isinstance : mg "isinstance" = none
  b_len : mg "len" = none
  b_list : mg "list" = none
  b_min : mg "min" = none
  b_range : mg "range" = none
  b_sorted : mg "sorted" = none
  b_sum : mg "sum" = none
  b_tuple : mg "tuple" = none
  d_machine : Dd K mg "machine" s_machine ["house"]
  d_states : Dd K mg "states" s_states ["house"]
  d_edge_count : Dd K mg "edge_count" s_edge_count ["edges"]
  d__renamed : Dd K mg "_renamed" s__renamed ["edges", "numbers"]
  d__law_draws : Dd K mg "_law_draws" s__law_draws ["script"]
  d__law_at : Dd K mg "_law_at" s__law_at ["draws", "k", "many"]
  d__law_mix : Dd K mg "_law_mix" s__law_mix ["draws", "k", "many"]
  d__law_letter : Dd K mg "_law_letter" s__law_letter ["cell"]
  d__law_text : Dd K mg "_law_text" s__law_text ["draws", "k", "most"]
  d__law_house : Dd K mg "_law_house" s__law_house ["draws", "k", "many", "most"]
  d__law_stands : Dd K mg "_law_stands" s__law_stands ["text", "word", "start"]
  d__law_words : Dd K mg "_law_words" s__law_words ["house"]
  d__law_ends : Dd K mg "_law_ends" s__law_ends ["house", "word"]
  d__law_classes : Dd K mg "_law_classes" s__law_classes ["house"]
  d__law_edges : Dd K mg "_law_edges" s__law_edges ["house", "rows"]
  d__law_link : Dd K mg "_law_link" s__law_link ["rows", "k"]
  d__law_long : Dd K mg "_law_long" s__law_long ["draws", "k"]
  d_law : Dd K mg "law" s_law ["script"]
  d_Growth___init__ : DdMk K ea.c_Growth "__init__" "Growth.__init__" s_Growth___init__ ["self", "house"]
  d_Growth_linked : DdM K ea.c_Growth "linked" "Growth.linked" s_Growth_linked ["self", "state"]
  d_Growth_pairs : DdM K ea.c_Growth "pairs" "Growth.pairs" s_Growth_pairs ["self"]
  d_Growth_marked_edges : DdM K ea.c_Growth "marked_edges" "Growth.marked_edges" s_Growth_marked_edges ["self"]
  d_Growth_least_size : DdM K ea.c_Growth "least_size" "Growth.least_size" s_Growth_least_size ["self", "state"]
  d_Growth__way_of : DdM K ea.c_Growth "_way_of" "Growth._way_of" s_Growth__way_of ["self", "text"]
  d_Growth__after : DdM K ea.c_Growth "_after" "Growth._after" s_Growth__after ["self", "state", "letter"]
  d_Growth__led_to : DdM K ea.c_Growth "_led_to" "Growth._led_to" s_Growth__led_to ["self", "state", "letter"]
  d_Growth__add : DdM K ea.c_Growth "_add" "Growth._add" s_Growth__add ["self", "size", "edges", "link"]
  d_Growth__put_in_order : DdM K ea.c_Growth "_put_in_order" "Growth._put_in_order" s_Growth__put_in_order ["self"]
  d_Growth__in_breadth : DdM K ea.c_Growth "_in_breadth" "Growth._in_breadth" s_Growth__in_breadth ["self"]
  g_Growth : mg "Growth" = some (.ref ea.c_Growth)
  l_Growth : Cls K ea.c_Growth
  n_Growth_edges : NoAttr K ea.c_Growth "edges"
  n_Growth_sizes : NoAttr K ea.c_Growth "sizes"
  n_Growth_links : NoAttr K ea.c_Growth "links"
  n_Growth_ways : NoAttr K ea.c_Growth "ways"
section
variable {P : Program} {w : World} {K : PySem.W.Frag} {mg : Str → Option Value} {base : Heap} {ea : Ea}
theorem sc__law_at : FnScope ["draws", "k", "many"] ["draws", "k", "many"] (defScope s__law_at) := ⟨rfl, rfl, rfl, by decide +kernel, rfl, by decide +kernel, by decide +kernel⟩
theorem ok__law_at (T : Txt K mg ea) : Cl P w K mg base 1 "_law_at" (spDraw K) := by
  have nd := sc__law_at.nd
  refine cl_of T.d__law_at sc__law_at (fun vs H Q E h => ?_) (fun f cdv A outer s H vs Q E hr h => ?_)
  · obtain ⟨a, ns, k, many, rfl, _⟩ := h
    rfl
  · obtain ⟨a, ns, k, many, rfl, hS, hD, h0, h1, hm, q⟩ := h
    refine ⟨_, (pss_cons (ps_if (pt_cmpR op_lt (pv 1) (pe_callB call_len_seq (by rfl) T.b_len PySem.boot_len (pa_cons (pv 0) pa_nil)) (nomark _))
        (pss_one (ps_ret (pe_op op_mod (pe_callTy call_int1 (by rfl) T.b_int (by decide +kernel) (pa_cons (pe_ix (ixl (K := K)) (pv 0) (pv 1) (fun _ _ => rfl)) pa_nil)) (pv 2))))
        pss_nil)
      (pss_one (ps_ret pe_int))), ?_⟩
    refine ⟨_, rfl, _, rfl, _, _, rfl, .inl hS, _, _, rfl, rfl, _, rfl, ite2 (fun e => ?_) (fun e => ?_)⟩
    · have e' := of_decide_eq_true e
      rw [List.length_map] at e'
      obtain ⟨z, hz, hm2⟩ := at_ints h0 e'
      refine ⟨_, rfl, _, rfl, _, _, _, _, rfl, rfl, hS, hz, .inl ⟨_, rfl, _, rfl, _, _, rfl, rfl, hm, ?_⟩⟩
      exact q _ (Int.emod_nonneg _ (by omega)) (Int.emod_lt_of_pos _ hm)
    · exact q 0 (by omega) hm
theorem sc__law_mix : FnScope ["draws", "k", "many", "value"] ["draws", "k", "many"] (defScope s__law_mix) := ⟨rfl, rfl, rfl, by decide +kernel, rfl, by decide +kernel, by decide +kernel⟩
theorem ok__law_mix (T : Txt K mg ea) : Cl P w K mg base 1 "_law_mix" (spDraw K) := by
  have nd := sc__law_mix.nd
  refine cl_of T.d__law_mix sc__law_mix (fun vs H Q E h => ?_) (fun f cdv A outer s H vs Q E hr h => ?_)
  · obtain ⟨a, ns, k, many, rfl, _⟩ := h
    rfl
  · obtain ⟨a, ns, k, many, rfl, hS, hD, h0, h1, hm, q⟩ := h
    refine ⟨_, (pss_cons (ps_set (i := 3) nd rfl (.inl rfl) pe_int)
      (C8.pss_cut (ps_if (pt_cmpR op_gt (pe_callB call_len_seq (by rfl) T.b_len PySem.boot_len (pa_cons (pv 0) pa_nil)) pe_int (nomark _))
        (pss_one (ps_set (i := 3) nd rfl (.inl rfl) (pe_ix (ixl (K := K)) (pv 0) (pe_op op_mod (pe_callTy call_int1 (by rfl) T.b_int (by decide +kernel) (pa_cons (pv 1) pa_nil)) (pe_callB call_len_seq (by rfl) T.b_len PySem.boot_len (pa_cons (pv 0) pa_nil))) (fun _ _ => rfl))))
        pss_nil)
      (pss_cons (ps_if (pt_cmpR op_lt (pv 1) (pe_callB call_len_seq (by rfl) T.b_len PySem.boot_len (pa_cons (pv 0) pa_nil)) (nomark _))
        (pss_one (ps_ret (pe_op op_mod (pe_callTy call_int1 (by rfl) T.b_int (by decide +kernel) (pa_cons (pv 3) pa_nil)) (pv 2))))
        pss_nil)
      (pss_one (ps_ret (pe_op op_mod (pe_callTy call_int1 (by rfl) T.b_int (by decide +kernel) (pa_cons (pe_op op_fdiv (pe_callTy call_int1 (by rfl) T.b_int (by decide +kernel) (pa_cons (pe_op op_add (pe_op op_mul (pv 3) pe_int) (pe_op op_mul (pv 1) pe_int)) pa_nil)) pe_int) pa_nil)) (pv 2))))))), ?_⟩
    have hl : (ns.map V.int).length = ns.length := List.length_map ..
    -- the value is a small number behind the if
    refine ⟨fun σ H' => H' = H ∧ ∃ z : Int, 0 ≤ z ∧ z < 65536 ∧ σ = [some (.ref a), some (.int k), some (.int many), some (.int z)], ?_, ?_⟩
    · refine ⟨_, rfl, _, _, rfl, .inl hS, _, _, rfl, rfl, _, rfl, ite2 (fun e => ?_) (fun e => ?_)⟩
      · have e' := of_decide_eq_true e
        rw [hl] at e'
        obtain ⟨z, hz, hm2⟩ := at_ints (ns := ns) (i := k % (ns.length : Int)) (Int.emod_nonneg _ (by omega)) (Int.emod_lt_of_pos _ (by omega))
        refine ⟨_, rfl, _, rfl, .inl ⟨_, rfl, _, rfl, _, _, rfl, .inl hS, _, _, rfl, rfl, (by show (0 : Int) < ((ns.map V.int).length : Int); omega), ?_⟩⟩
        refine ⟨_, _, _, _, rfl, rfl, hS, (by rw [hl]; exact hz), ?_⟩
        exact ⟨rfl, z, (hD.2 z hm2).1, (hD.2 z hm2).2, rfl⟩
      · exact ⟨rfl, 0, by omega, by omega, rfl⟩
    · rintro σ' H' ⟨rfl, z, z0, z1, rfl⟩
      refine ⟨_, rfl, _, rfl, _, _, rfl, .inl hS, _, _, rfl, rfl, _, rfl, ite2 (fun e => ?_) (fun e => ?_)⟩
      · refine ⟨_, rfl, .inl ⟨_, rfl, _, rfl, _, _, rfl, rfl, hm, ?_⟩⟩
        exact q _ (Int.emod_nonneg _ (by omega)) (Int.emod_lt_of_pos _ hm)
      · refine ⟨_, rfl, _, _, rfl, rfl, .inr (by decide), _, rfl, _, _, rfl, rfl, .inr (by decide), _, _, rfl, rfl, .inl ⟨_, rfl, _, _, rfl, rfl, (by constructor <;> decide), .inl ⟨_, rfl, _, rfl, _, _, rfl, rfl, hm, ?_⟩⟩⟩
        exact q _ (Int.emod_nonneg _ (by omega)) (Int.emod_lt_of_pos _ hm)
/-- a letter -/
def spLetter : Sp := fun vs H Q _ => ∃ i : Int, vs = [.int i] ∧ ∀ c : Nat, okc c = true → Q (.str ⟨#[c]⟩) H
theorem sc__law_letter : FnScope ["cell", "table"] ["cell"] (defScope s__law_letter) := ⟨rfl, rfl, rfl, by decide +kernel, rfl, by decide +kernel, by decide +kernel⟩
theorem ok__law_letter (T : Txt K mg ea) : Cl P w K mg base 1 "_law_letter" spLetter := by
  have nd := sc__law_letter.nd
  refine cl_of T.d__law_letter sc__law_letter (fun vs H Q E h => ?_) (fun f cdv A outer s H vs Q E hr h => ?_)
  · obtain ⟨i, rfl, _⟩ := h
    rfl
  · obtain ⟨i, rfl, q⟩ := h
    refine ⟨_, (pss_cons (ps_set (i := 1) nd rfl (.inl rfl) pe_str)
      (pss_one (ps_ret (pe_ix ix_str (pv 1) (pe_op op_mod (pe_callTy call_int1 (by rfl) T.b_int (by decide +kernel) (pa_cons (pv 0) pa_nil)) pe_int) (fun _ _ => rfl))))), ?_⟩
    refine ⟨_, rfl, _, rfl, .inl ⟨_, rfl, _, _, rfl, rfl, (by show (0 : Int) < 94; decide), ?_⟩⟩
    refine (?_ : ∀ z : Str, z.cps.toList.length = 94 → IsLet z → ∃ (z' : Str) (j : Int) (c : Nat), V.str z = .str z' ∧ V.int (i % 94) = .int j ∧ z'.length ≤ sizeLine ∧ atI z'.cps.toList j = some c ∧ Q (.str ⟨#[c]⟩) H) _ (by decide +kernel) (by decide +kernel)
    intro z hl hz
    obtain ⟨c, hc, hm⟩ := str_at (z := z) (i := i % 94) (Int.emod_nonneg _ (by decide)) (by rw [hl]; exact Int.emod_lt_of_pos _ (by decide))
    refine ⟨z, _, c, rfl, rfl, ?_, hc, q c (List.all_eq_true.mp hz c hm)⟩
    have : z.length = 94 := by simpa [Str.length] using hl
    rw [this]
    decide
/-- a text of at most so many letters -/
def spText (K : PySem.W.Frag) : Sp := fun vs H Q _ => ∃ (a : Addr) (ns : List Int) (k : Int) (most : Nat), vs = [.ref a, .int k, .int most] ∧ SqL K H a (ns.map V.int) ∧ Dr ns ∧ 0 ≤ k ∧ k < 50000 ∧ most ≤ 100 ∧
  ∀ (z : Str) (H' : Hp), Same H H' → IsLet z → z.length ≤ most → Q (.str z) H'
theorem sc__law_text : FnScope ["draws", "k", "most", "word", "text", "n", "cell", "letters"] ["draws", "k", "most"] (defScope s__law_text) := ⟨rfl, rfl, rfl, by decide +kernel, rfl, by decide +kernel, by decide +kernel⟩
theorem ok__law_text (T : Txt K mg ea) (c__law_mix : Cl P w K mg base 1 "_law_mix" (spDraw K)) (c__law_letter : Cl P w K mg base 1 "_law_letter" spLetter) : Cl P w K mg base 2 "_law_text" (spText K) := by
  have nd := sc__law_text.nd
  refine cl_of T.d__law_text sc__law_text (fun vs H Q E h => ?_) (fun f cdv A outer s H vs Q E hr h => ?_)
  · obtain ⟨a, ns, k, most, rfl, _⟩ := h
    rfl
  · obtain ⟨a, ns, k, most, rfl, hS, hD, h0, h1, hm, q⟩ := h
    refine ⟨_, (pss_cons (ps_set (i := 3) nd rfl (.inl rfl) (C8.pe_c c__law_mix hr (by decide) (by rfl) (pa_cons (pv 0) (pa_cons (pe_op op_add (pv 1) pe_int) (pa_cons pe_int pa_nil)))))
      (pss_cons (ps_set (i := 4) nd rfl (.inl rfl) pe_str)
      (pss_cons (ps_for PassesOwn.never rfl (pi_range1 rfl T.b_range (pa_cons (C8.pe_c c__law_mix hr (by decide) (by rfl) (pa_cons (pv 0) (pa_cons (pv 1) (pa_cons (pe_op op_add (pv 2) pe_int) pa_nil)))) pa_nil)) (pg_name (i := 5) nd rfl (.inl rfl))
        (pss_cons (ps_set (i := 6) nd rfl (.inl rfl) (C8.pe_c c__law_mix hr (by decide) (by rfl) (pa_cons (pv 0) (pa_cons (pe_op op_add (pe_op op_add (pv 1) pe_int) (pv 5)) (pa_cons pe_int pa_nil)))))
          (pss_cons (ps_set (i := 7) nd rfl (.inl rfl) (pe_lst (pa_cons (pe_ix ix_str pe_str (pe_op op_mod (pe_callTy call_int1 (by rfl) T.b_int (by decide +kernel) (pa_cons (pe_op op_fdiv (pv 6) pe_int) pa_nil)) pe_int) (fun _ _ => rfl)) (pa_cons (pe_ix ix_str pe_str (pe_op op_mod (pe_callTy call_int1 (by rfl) T.b_int (by decide +kernel) (pa_cons (pe_op op_fdiv (pv 6) pe_int) pa_nil)) pe_int) (fun _ _ => rfl)) (pa_cons (pe_ix ix_str pe_str (pe_op op_andM (pe_callTy call_int1 (by rfl) T.b_int (by decide +kernel) (pa_cons (pv 6) pa_nil)) pe_int) (fun _ _ => rfl)) (pa_cons (C8.pe_c c__law_letter hr (by decide) (by rfl) (pa_cons (pv 6) pa_nil)) (pa_cons pe_str pa_nil)))))))
          (pss_one (ps_set (i := 4) nd rfl (.inl rfl) (pe_op op_add_str (pv 4) (pe_ix (ixl (K := K)) (pv 7) (pv 3) (fun _ _ => rfl))))))))
      (pss_one (ps_ret (pv 4)))))), ?_⟩
    refine ⟨_, rfl, _, rfl, _, _, rfl, rfl, a, ns, k + 1, 5, rfl, hS, hD, by omega, by omega, by omega, fun word w0 w1 => ?_⟩
    refine ⟨_, rfl, _, rfl, _, rfl, _, _, rfl, rfl, a, ns, k, (most : Int) + 1, rfl, hS, hD, by omega, by omega, by omega, fun r r0 r1 => ?_⟩
    refine ⟨r, rfl, by omega, by omega, ?_⟩
    refine for_range (lo := 0) (n := r.toNat) (fun i σ H' => ∃ (z : Str) (y5 y6 y7 : Option V), σ = [some (.ref a), some (.int k), some (.int most), some (.int word), some (.str z), y5, y6, y7] ∧ Same H H' ∧ IsLet z ∧ z.length ≤ i)
      ⟨_, none, none, none, rfl, Same.refl H, (by decide), (by decide)⟩ (fun i σ H' hi hW => ?_) (fun σ H' hW => ?_)
    · obtain ⟨z, y5, y6, y7, rfl, sm, hz, hl⟩ := hW
      have hS1 := sm.seq hS
      refine ⟨_, rfl, _, rfl, _, _, rfl, rfl, _, rfl, _, _, rfl, rfl, a, ns, k + 2 + (0 + (i : Int)), 9000, rfl, hS1, hD, by omega, by omega, by omega, fun cell c0 c1 => ?_⟩
      refine ⟨_, rfl, _, _, rfl, rfl, (by constructor <;> decide), .inl ⟨_, rfl, _, _, rfl, rfl, (by show (0 : Int) < 2; decide), ?_⟩⟩
      refine ixs_let (by decide) (by decide) (Int.emod_nonneg _ (by decide)) (Int.emod_lt_of_pos _ (by decide)) fun u1 v1 => ?_
      refine ⟨_, rfl, _, _, rfl, rfl, (by constructor <;> decide), .inl ⟨_, rfl, _, _, rfl, rfl, (by show (0 : Int) < 3; decide), ?_⟩⟩
      refine ixs_let (by decide) (by decide) (Int.emod_nonneg _ (by decide)) (Int.emod_lt_of_pos _ (by decide)) fun u2 v2 => ?_
      refine ⟨_, rfl, .inl ⟨_, rfl, cell, 2, rfl, rfl, ?_⟩⟩
      refine ixs_let (by decide) (by decide) (Int.emod_nonneg _ (by decide)) (Int.emod_lt_of_pos _ (by decide)) fun u3 v3 => ?_
      refine ⟨_, rfl, cell, rfl, fun u4 v4 => ?_⟩
      refine ⟨(by show 5 ≤ sizeLine; decide), fun l hl2 => ?_⟩
      have sm2 : Same H (upd H' l (.lst ([(⟨#[u1]⟩ : Str), ⟨#[u2]⟩, ⟨#[u3]⟩, ⟨#[u4]⟩, "a"].map V.str))) := sm.trans (same_new hl2)
      obtain ⟨x, hx, hxm⟩ := at_map V.str (xs := [(⟨#[u1]⟩ : Str), ⟨#[u2]⟩, ⟨#[u3]⟩, ⟨#[u4]⟩, "a"]) (i := word) w0 w1
      have hx1 : IsLet x ∧ x.length = 1 := by
        simp only [List.mem_cons, List.not_mem_nil, or_false] at hxm
        rcases hxm with e | e | e | e | e <;> subst e
        · exact ⟨let_one v1, rfl⟩
        · exact ⟨let_one v2, rfl⟩
        · exact ⟨let_one v3, rfl⟩
        · exact ⟨let_one v4, rfl⟩
        · exact ⟨by decide, by decide⟩
      refine ⟨_, rfl, _, rfl, _, rfl, l, _, word, .str x, rfl, rfl, .inl (.inl upd_same), hx, z, x, rfl, rfl, ?_, ?_⟩
      · exact Nat.le_trans (by omega : z.length + x.length ≤ 1000) (by decide)
      · exact ⟨_, _, _, _, rfl, sm2, let_app hz hx1.1, by rw [len_app]; omega⟩
    · obtain ⟨z, y5, y6, y7, rfl, sm, hz, hl⟩ := hW
      exact ⟨_, rfl, q z H' sm hz (by omega)⟩
/-- the numbers drawn from the script: a new list of small numbers -/
def spDraws (K : PySem.W.Frag) : Sp := fun vs H Q _ => ∃ (a : Addr) (ns : List Int), vs = [.ref a] ∧ SqL K H a (ns.map V.int) ∧ ns.length ≤ 63 ∧
  ∀ (p : Addr) (ds : List Int) (H' : Hp), Same H H' → H p = none → H' p = some (.lst (ds.map V.int)) → Dr ds → Q (.ref p) H'
/-- the list at p so far -/
structure DrAt (H H' : Hp) (p : Addr) (n : Nat) (ds : List Int) : Prop where
  sm : Same H H'
  at_ : H' p = some (.lst (ds.map V.int))
  len : ds.length ≤ n
  all : ∀ z ∈ ds, 0 ≤ z ∧ z < 65536
theorem DrAt.more {H H' : Hp} {p : Addr} {n : Nat} {ds : List Int} (h : DrAt H H' p n ds) (hp : H p = none) {z : Int} (z0 : 0 ≤ z) (z1 : z < 65536) : DrAt H (upd H' p (.lst (ds.map V.int ++ [.int z]))) p (n + 1) (ds ++ [z]) :=
  ⟨same_mut h.sm hp, by rw [upd_same, List.map_append]; rfl, by rw [List.length_append]; have := h.len; simp; omega, fun y hy => by
    rcases List.mem_append.mp hy with m | m
    · exact h.all y m
    · rw [List.mem_singleton.mp m]; exact ⟨z0, z1⟩⟩
theorem DrAt.mono {H H' : Hp} {p : Addr} {n m : Nat} {ds : List Int} (h : DrAt H H' p n ds) (l : n ≤ m) : DrAt H H' p m ds := ⟨h.sm, h.at_, Nat.le_trans h.len l, h.all⟩
theorem sc__law_draws : FnScope ["script", "draws", "k", "rest", "turn", "mixed"] ["script"] (defScope s__law_draws) := ⟨rfl, rfl, rfl, by decide +kernel, rfl, by decide +kernel, by decide +kernel⟩
theorem ok__law_draws (T : Txt K mg ea) : Cl P w K mg base 1 "_law_draws" (spDraws K) := by
  have nd := sc__law_draws.nd
  refine cl_of T.d__law_draws sc__law_draws (fun vs H Q E h => ?_) (fun f cdv A outer s H vs Q E hr h => ?_)
  · obtain ⟨a, ns, rfl, _⟩ := h
    rfl
  · obtain ⟨a, ns, rfl, hS, hl, q⟩ := h
    refine ⟨_, (pss_cons (ps_set (i := 1) nd rfl (.inl rfl) (pe_lst pa_nil))
      (pss_cons (ps_for PassesOwn.never rfl (pi_range1 rfl T.b_range (pa_cons (pe_callB (call_min2 rfl) (by rfl) T.b_min (by decide +kernel) (pa_cons pe_int (pa_cons (pe_callB call_len_seq (by rfl) T.b_len PySem.boot_len (pa_cons (pv 0) pa_nil)) pa_nil))) pa_nil)) (pg_name (i := 2) nd rfl (.inl rfl))
        (pss_cons (ps_set (i := 3) nd rfl (.inl rfl) (pe_callB call_abs (by rfl) T.b_abs (by decide +kernel) (pa_cons (pe_ix (ixl (K := K)) (pv 0) (pv 2) (fun _ _ => rfl)) pa_nil)))
          (pss_one (ps_if (pt_cmpR op_ge (pv 3) (pe_op op_pow pe_int pe_int) (nomark _))
            (pss_one (ps_for PassesOwn.never rfl (pi_range1 rfl T.b_range (pa_cons pe_int pa_nil)) (pg_name (i := 4) nd rfl (.inl rfl))
                (pss_one (ps_if (pt_cmpR op_gt (pv 3) pe_int (nomark _))
                    (pss_cons (ps_expr (pe_bm PySem.F.plainAttrs_list PySem.F.slot_list_append PySem.F.type_list_append mt_append (pv 1) (pa_cons (pe_op op_mod (pe_callTy call_int1 (by rfl) T.b_int (by decide +kernel) (pa_cons (pv 3) pa_nil)) pe_int) pa_nil)))
                      (pss_one (ps_set (i := 3) nd rfl (.inl rfl) (pe_op op_fdiv (pv 3) pe_int))))
                    pss_nil))))
            (pss_cons (ps_set (i := 5) nd rfl (.inl rfl) (pe_op op_mod (pe_callTy call_int1 (by rfl) T.b_int (by decide +kernel) (pa_cons (pe_op op_add (pe_op op_mul (pv 3) pe_int) (pe_op op_mul (pe_op op_add (pv 2) pe_int) pe_int)) pa_nil)) pe_int))
              (pss_cons (ps_set (i := 5) nd rfl (.inl rfl) (pe_op op_mod (pe_callTy call_int1 (by rfl) T.b_int (by decide +kernel) (pa_cons (pe_op op_add (pe_op op_add (pe_op op_mul (pv 5) pe_int) (pe_op op_mul pe_int (pv 2))) pe_int) pa_nil)) pe_int))
              (pss_cons (ps_expr (pe_bm PySem.F.plainAttrs_list PySem.F.slot_list_append PySem.F.type_list_append mt_append (pv 1) (pa_cons (pe_op op_mod (pe_callTy call_int1 (by rfl) T.b_int (by decide +kernel) (pa_cons (pv 5) pa_nil)) pe_int) pa_nil)))
              (pss_one (ps_expr (pe_bm PySem.F.plainAttrs_list PySem.F.slot_list_append PySem.F.type_list_append mt_append (pv 1) (pa_cons (pe_op op_mod (pe_callTy call_int1 (by rfl) T.b_int (by decide +kernel) (pa_cons (pe_op op_fdiv (pv 5) pe_int) pa_nil)) pe_int) pa_nil)))))))))))
      (pss_one (ps_ret (pv 1))))), ?_⟩
    refine ⟨Nat.zero_le _, fun p hp => ?_⟩
    have sm0 : Same H (upd H p (.lst [])) := same_new hp
    have hlen : (ns.map V.int).length = ns.length := List.length_map ..
    refine ⟨_, rfl, _, _, rfl, .inl (sm0.seq hS), _, _, rfl, ?_⟩
    have hm : (if ((ns.map V.int).length : Int) < 63 then ((ns.map V.int).length : Int) else 63) ≤ ns.length ∧ 0 ≤ (if ((ns.map V.int).length : Int) < 63 then ((ns.map V.int).length : Int) else 63) ∧ (if ((ns.map V.int).length : Int) < 63 then ((ns.map V.int).length : Int) else 63) ≤ 63 := by
      rw [hlen]; split <;> omega
    refine ⟨_, rfl, by omega, by omega, ?_⟩
    generalize (if ((ns.map V.int).length : Int) < 63 then ((ns.map V.int).length : Int) else 63) = m at hm ⊢
    obtain ⟨m1, m0, m2⟩ := hm
    refine for_range (lo := 0) (n := m.toNat) (fun i σ H' => ∃ (ds : List Int) (y2 y3 y4 y5 : Option V), σ = [some (.ref a), some (.ref p), y2, y3, y4, y5] ∧ DrAt H H' p (60 * i) ds)
      ⟨[], none, none, none, none, rfl, sm0, upd_same, Nat.zero_le _, fun z hz => by cases hz⟩ (fun i σ H' hi hW => ?_) (fun σ H' hW => ?_)
    · obtain ⟨ds, y2, y3, y4, y5, rfl, hA⟩ := hW
      obtain ⟨z, hz, _⟩ := at_ints (ns := ns) (i := 0 + (i : Int)) (by omega) (by omega)
      refine ⟨_, rfl, _, rfl, _, _, _, _, rfl, rfl, hA.sm.seq hS, hz, _, rfl, ?_⟩
      generalize (if z < 0 then -z else z) = r
      refine ⟨_, rfl, _, _, rfl, rfl, ⟨by decide, by decide, by decide⟩, _, _, rfl, rfl, _, rfl, ite2 (fun e => ?_) (fun e => ?_)⟩
      · -- a great number: its digits
        refine ⟨60, rfl, by decide, by decide, ?_⟩
        refine for_range (lo := 0) (n := 60) (fun j σ H' => ∃ (ds : List Int) (r' : Int) (y4 : Option V), σ = [some (.ref a), some (.ref p), some (.int (0 + (i : Int))), some (.int r'), y4, y5] ∧ DrAt H H' p (60 * i + j) ds)
          ⟨ds, r, y4, rfl, hA⟩ (fun j σ H2 hj hW => ?_) (fun σ H2 hW => ?_)
        · obtain ⟨ds2, r2, y42, rfl, hA2⟩ := hW
          refine ⟨_, rfl, _, _, rfl, rfl, _, rfl, ite2 (fun e => ?_) (fun e => ?_)⟩
          · refine ⟨_, rfl, .inl ⟨rfl, _, SqL.of hA2.at_⟩, _, rfl, .inl ⟨_, rfl, _, _, rfl, rfl, (by show (0 : Int) < 65536; decide), ?_⟩⟩
            refine ⟨p, _, _, rfl, rfl, hA2.at_, ?_, ?_⟩
            · rw [List.length_map]; exact Nat.lt_of_le_of_lt (Nat.le_trans hA2.len (by omega : _ ≤ 4000)) (by decide)
            · refine ⟨_, rfl, _, _, rfl, rfl, (by constructor <;> decide), ?_⟩
              exact ⟨_, _, _, rfl, hA2.more hp (Int.emod_nonneg _ (by decide)) (Int.emod_lt_of_pos _ (by decide))⟩
          · exact ⟨ds2, r2, _, rfl, hA2.mono (by omega)⟩
        · obtain ⟨ds2, r2, y42, rfl, hA2⟩ := hW
          exact ⟨ds2, _, _, _, _, rfl, hA2.mono (by omega)⟩
      · -- a lesser one: two numbers mixed
        refine ⟨_, rfl, _, _, rfl, rfl, .inr (by decide), _, rfl, _, _, rfl, rfl, _, _, rfl, rfl, .inr (by decide), _, _, rfl, rfl, .inl ⟨_, rfl, _, _, rfl, rfl, (by show (0 : Int) < 2147483647; decide), ?_⟩⟩
        refine ⟨_, rfl, _, _, rfl, rfl, .inr (by decide), _, rfl, _, _, rfl, rfl, .inl (by decide), _, _, rfl, rfl, _, _, rfl, rfl, .inl ⟨_, rfl, _, _, rfl, rfl, (by show (0 : Int) < 2147483629; decide), ?_⟩⟩
        have b1 : (ds.map V.int).length < sizeLine := by rw [List.length_map]; exact Nat.lt_of_le_of_lt (Nat.le_trans hA.len (by omega : _ ≤ 4000)) (by decide)
        refine ⟨_, rfl, .inl ⟨rfl, _, SqL.of hA.at_⟩, _, rfl, .inl ⟨_, rfl, _, _, rfl, rfl, (by show (0 : Int) < 65536; decide), p, _, _, rfl, rfl, hA.at_, b1, ?_⟩⟩
        have hB := hA.more hp (z := (((r * 48271 + (0 + (i : Int) + 1) * 69621) % 2147483647 * 16807 + 11 * (0 + (i : Int)) + 5) % 2147483629) % 65536) (Int.emod_nonneg _ (by decide)) (Int.emod_lt_of_pos _ (by decide))
        have b2 : ((ds ++ [(((r * 48271 + (0 + (i : Int) + 1) * 69621) % 2147483647 * 16807 + 11 * (0 + (i : Int)) + 5) % 2147483629) % 65536]).map V.int).length < sizeLine := by rw [List.length_map]; exact Nat.lt_of_le_of_lt (Nat.le_trans hB.len (by omega : _ ≤ 4000)) (by decide)
        refine ⟨_, rfl, .inl ⟨rfl, _, SqL.of hB.at_⟩, _, rfl, _, _, rfl, rfl, (by constructor <;> decide), .inl ⟨_, rfl, _, _, rfl, rfl, (by show (0 : Int) < 32768; decide), p, _, _, rfl, rfl, hB.at_, b2, ?_⟩⟩
        exact ⟨_, _, _, _, _, rfl, (hB.more hp (z := (((r * 48271 + (0 + (i : Int) + 1) * 69621) % 2147483647 * 16807 + 11 * (0 + (i : Int)) + 5) % 2147483629) / 65536 % 32768) (Int.emod_nonneg _ (by decide)) (by have := Int.emod_lt_of_pos ((((r * 48271 + (0 + (i : Int) + 1) * 69621) % 2147483647 * 16807 + 11 * (0 + (i : Int)) + 5) % 2147483629) / 65536) (show (0 : Int) < 32768 by decide); omega)).mono (by omega)⟩
    · obtain ⟨ds, y2, y3, y4, y5, rfl, hA⟩ := hW
      exact ⟨_, rfl, q p ds H' hA.sm hp hA.at_ ⟨Nat.le_trans hA.len (by omega), hA.all⟩⟩
/-- a house drawn -/
def spHouse (K : PySem.W.Frag) : Sp := fun vs H Q _ => ∃ (a : Addr) (ns : List Int) (k : Int) (many most : Nat), vs = [.ref a, .int k, .int many, .int most] ∧ SqL K H a (ns.map V.int) ∧ Dr ns ∧ 0 ≤ k ∧ k < 10000 ∧ many ≤ 8 ∧ most ≤ 40 ∧
  ∀ (p : Addr) (L : PL) (H' : Hp), Same H H' → H p = none → H' p = some (.lst (refs L)) → PairsAt K H' L → L.length ≤ many → IsHs most (L.map (·.2)) → Q (.ref p) H'
/-- the house so far -/
structure HsSo (K : PySem.W.Frag) (H H' : Hp) (p : Addr) (i most : Nat) (num : Int) (L : PL) : Prop where
  sm : Same H H'
  at_ : H' p = some (.lst (refs L))
  ps : PairsAt K H' L
  len : L.length = i
  hs : IsHs most (L.map (·.2))
  lt : ∀ q ∈ L, q.2.1 < num
  n0 : 0 ≤ num
  n1 : num ≤ 3 + 9 * (i : Int)
theorem HsSo.same {H H' H2 : Hp} {p : Addr} {i most : Nat} {num : Int} {L : PL} (h : HsSo K H H' p i most num L) (e : Same H' H2) : HsSo K H H2 p i most num L :=
  ⟨h.sm.trans e, e _ _ h.at_, h.ps.same e, h.len, h.hs, h.lt, h.n0, h.n1⟩
theorem hs_snoc {m : Nat} {h : List (Int × Str)} (a : IsHs m h) {n : Int} {z : Str} (lt : ∀ q ∈ h, q.1 < n) (n0 : 0 ≤ n) (n1 : n ≤ 99) (hz : IsLet z) (hl : z.length ≤ m) : IsHs m (h ++ [(n, z)]) := by
  refine ⟨?_, fun q hq => ?_, fun q hq => ?_⟩
  · rw [List.map_append, List.pairwise_append]
    refine ⟨a.asc, by simp, fun x hx y hy => ?_⟩
    obtain ⟨q, hq, rfl⟩ := List.mem_map.mp hx
    simp at hy
    subst hy
    exact lt q hq
  · rcases List.mem_append.mp hq with m1 | m1
    · exact a.num q m1
    · rw [List.mem_singleton.mp m1]; exact ⟨n0, n1⟩
  · rcases List.mem_append.mp hq with m1 | m1
    · exact a.txt q m1
    · rw [List.mem_singleton.mp m1]; exact ⟨hz, hl⟩
theorem sc__law_house : FnScope ["draws", "k", "many", "most", "house", "number", "n", "text"] ["draws", "k", "many", "most"] (defScope s__law_house) := ⟨rfl, rfl, rfl, by decide +kernel, rfl, by decide +kernel, by decide +kernel⟩
theorem ok__law_house (T : Txt K mg ea) (c__law_mix : Cl P w K mg base 1 "_law_mix" (spDraw K)) (c__law_text : Cl P w K mg base 2 "_law_text" (spText K)) : Cl P w K mg base 3 "_law_house" (spHouse K) := by
  have nd := sc__law_house.nd
  refine cl_of T.d__law_house sc__law_house (fun vs H Q E h => ?_) (fun f cdv A outer s H vs Q E hr h => ?_)
  · obtain ⟨a, ns, k, many, most, rfl, _⟩ := h
    rfl
  · obtain ⟨a, ns, k, many, most, rfl, hS, hD, h0, h1, hm, ho, q⟩ := h
    refine ⟨_, (pss_cons (ps_set (i := 4) nd rfl (.inl rfl) (pe_lst pa_nil))
      (pss_cons (ps_set (i := 5) nd rfl (.inl rfl) (C8.pe_c c__law_mix hr (by decide) (by rfl) (pa_cons (pv 0) (pa_cons (pv 1) (pa_cons pe_int pa_nil)))))
      (pss_cons (ps_for PassesOwn.never rfl (pi_range1 rfl T.b_range (pa_cons (C8.pe_c c__law_mix hr (by decide) (by rfl) (pa_cons (pv 0) (pa_cons (pe_op op_add (pv 1) pe_int) (pa_cons (pe_op op_add (pv 2) pe_int) pa_nil)))) pa_nil)) (pg_name (i := 6) nd rfl (.inl rfl))
        (pss_cons (ps_set (i := 7) nd rfl (.inl rfl) (C8.pe_c c__law_text hr (by decide) (by rfl) (pa_cons (pv 0) (pa_cons (pe_op op_add (pe_op op_add (pv 1) pe_int) (pe_op op_mul pe_int (pv 6))) (pa_cons (pv 3) pa_nil)))))
          (C8.pss_cut (ps_if (PW.pt (pw_and (pt_cmpR op_gt (pv 6) pe_int (nomark _)) (pw_and1 (pt_cmpR op_eq (C8.pe_c c__law_mix hr (by decide) (by rfl) (pa_cons (pv 0) (pa_cons (pe_op op_add (pe_op op_add (pv 1) pe_int) (pv 6)) (pa_cons pe_int pa_nil)))) pe_int (nomark _)))))
            (pss_one (ps_set (i := 7) nd rfl (.inl rfl) (pe_ix (ixt (K := K)) (pe_ix (ixl (K := K)) (pv 4) (pe_op op_sub (pv 6) pe_int) (fun _ _ => rfl)) pe_int (fun _ _ => rfl))))
            pss_nil)
          (pss_cons (ps_expr (pe_bm PySem.F.plainAttrs_list PySem.F.slot_list_append PySem.F.type_list_append mt_append (pv 4) (pa_cons (pe_tup (pa_cons (pv 5) (pa_cons (pv 7) pa_nil))) pa_nil)))
          (pss_one (ps_set (i := 5) nd rfl (.inl rfl) (pe_op op_add (pe_op op_add (pv 5) pe_int) (C8.pe_c c__law_mix hr (by decide) (by rfl) (pa_cons (pv 0) (pa_cons (pe_op op_add (pe_op op_add (pv 1) pe_int) (pv 6)) (pa_cons pe_int pa_nil)))))))))))
      (pss_one (ps_ret (pv 4)))))), ?_⟩
    refine ⟨Nat.zero_le _, fun p hp => ?_⟩
    have sm0 : Same H (upd H p (.lst [])) := same_new hp
    refine ⟨_, rfl, _, rfl, a, ns, k, 4, rfl, sm0.seq hS, hD, by omega, by omega, by omega, fun num u0 u1 => ?_⟩
    refine ⟨_, rfl, _, rfl, _, _, rfl, rfl, _, rfl, _, _, rfl, rfl, a, ns, k + 1, (many : Int) + 1, rfl, sm0.seq hS, hD, by omega, by omega, by omega, fun r r0 r1 => ?_⟩
    refine ⟨r, rfl, by omega, by omega, ?_⟩
    refine for_range (lo := 0) (n := r.toNat) (fun i σ H' => ∃ (L : PL) (num : Int) (y6 y7 : Option V), σ = [some (.ref a), some (.int k), some (.int many), some (.int most), some (.ref p), some (.int num), y6, y7] ∧ HsSo K H H' p i most num L)
      ⟨[], num, none, none, rfl, sm0, upd_same, (fun q hq => by cases hq), rfl, ⟨List.Pairwise.nil, (fun q hq => by cases hq), (fun q hq => by cases hq)⟩, (fun q hq => by cases hq), u0, by omega⟩ (fun i σ H' hi hW => ?_) (fun σ H' hW => ?_)
    · obtain ⟨L, num, y6, y7, rfl, hA⟩ := hW
      refine ⟨_, rfl, _, rfl, _, _, rfl, rfl, _, rfl, _, _, rfl, rfl, .inl (by decide), _, _, rfl, rfl, _, rfl, a, ns, k + 5 + 11 * (0 + (i : Int)), most, rfl, hA.sm.seq hS, hD, by omega, by omega, by omega, fun z H2 sm2 hz hl => ?_⟩
      have hA2 := hA.same sm2
      refine ⟨fun σ H3 => H3 = H2 ∧ ∃ x : Str, IsLet x ∧ x.length ≤ most ∧ σ = [some (.ref a), some (.int k), some (.int many), some (.int most), some (.ref p), some (.int num), some (.int (0 + (i : Int))), some (.str x)], ?_, ?_⟩
      · refine ⟨_, rfl, _, _, rfl, rfl, _, rfl, ite2 (fun e => ?_) (fun e => iteF ⟨rfl, z, hz, hl, rfl⟩)⟩
        have e' := of_decide_eq_true e
        refine ⟨_, rfl, _, rfl, _, _, rfl, rfl, _, rfl, _, _, rfl, rfl, a, ns, k + 3 + (0 + (i : Int)), 5, rfl, hA2.sm.seq hS, hD, by omega, by omega, by omega, fun r5 _ _ => ?_⟩
        refine ⟨rfl, _, rfl, ite2 (fun e2 => ?_) (fun e2 => ⟨rfl, z, hz, hl, rfl⟩)⟩
        obtain ⟨t, ht, hm2⟩ := at_map (fun q : Addr × Int × Str => V.ref q.1) (xs := L) (i := (0 + (i : Int)) - 1) (by omega) (by have := hA.len; omega)
        refine ⟨_, rfl, _, rfl, _, _, rfl, rfl, p, _, _, _, rfl, rfl, SqL.of hA2.at_, ht, _, _, _, _, rfl, rfl, hA2.ps t hm2, (show atI [V.int t.2.1, V.str t.2.2] 1 = some (.str t.2.2) from rfl), rfl, t.2.2, ?_⟩
        have := hA.hs.txt t.2 (List.mem_map_of_mem hm2)
        exact ⟨this.1, this.2, rfl⟩
      · rintro σ' H3 ⟨rfl, x, hx, hxl, rfl⟩
        refine ⟨_, rfl, .inl ⟨rfl, _, SqL.of hA2.at_⟩, _, rfl, _, rfl, (by show 2 ≤ sizeLine; decide), fun t ht => ?_⟩
        have pt : p ≠ t := ne_of_none hA2.at_ ht
        have at2 : (upd H3 t (.tup [.int num, .str x])) p = some (.lst (refs L)) := by rw [upd_ne pt]; exact hA2.at_
        refine ⟨p, _, _, rfl, rfl, at2, ?_, ?_⟩
        · show (L.map _).length < sizeLine
          rw [List.length_map, hA2.len]; exact Nat.lt_of_le_of_lt (by omega : i ≤ 1000) (by decide)
        have sm3 : Same H3 (upd H3 t (.tup [.int num, .str x])) := same_new ht
        have smp : ∀ o, Same H (upd (upd H3 t (.tup [.int num, .str x])) p o) := fun o => same_mut (hA2.sm.trans sm3) hp
        refine ⟨_, rfl, _, _, rfl, rfl, _, rfl, _, rfl, _, _, rfl, rfl, _, rfl, _, _, rfl, rfl, a, ns, k + 4 + (0 + (i : Int)), 9, rfl, (smp _).seq hS, hD, by omega, by omega, by omega, fun g g0 g1 => ?_⟩
        have n0 := hA.n0
        have n1 := hA.n1
        refine ⟨_, _, rfl, rfl, L ++ [(t, num, x)], _, _, _, rfl, smp _, ?_, ?_, ?_, ?_, ?_, ?_, ?_⟩
        · rw [upd_same]; show _ = some (HO.lst (List.map _ _)); rw [List.map_append]; rfl
        · intro q hq
          have nq : ∀ {b : Addr} {xs : List V}, SqT K (upd H3 t (.tup [.int num, .str x])) b xs → SqT K (upd (upd H3 t (.tup [.int num, .str x])) p (.lst (refs L ++ [.ref t]))) b xs := fun {b xs} h => by
            rcases h with (h | ⟨o, h⟩) | h
            · exact .inl (.inl (by rw [upd_ne (fun z => by rw [z, at2] at h; cases h)]; exact h))
            · exact .inl (.inr ⟨o, by rw [upd_ne (fun z => by rw [z, at2] at h; cases h)]; exact h⟩)
            · exact .inr h
          rcases List.mem_append.mp hq with m1 | m1
          · exact nq (same_tup sm3 (hA2.ps q m1))
          · rw [List.mem_singleton.mp m1]; exact nq (.inl (.inl upd_same))
        · rw [List.length_append, hA.len]; rfl
        · rw [List.map_append]
          exact hs_snoc hA.hs (fun q hq => by obtain ⟨y, hy, rfl⟩ := List.mem_map.mp hq; exact hA.lt y hy) n0 (by omega) hx hxl
        · intro q hq
          rcases List.mem_append.mp hq with m1 | m1
          · have := hA.lt q m1; omega
          · rw [List.mem_singleton.mp m1]; show num < _; omega
        · omega
        · omega
    · obtain ⟨L, num, y6, y7, rfl, hA⟩ := hW
      exact ⟨_, rfl, q p L H' hA.sm hp hA.at_ hA.ps (by have := hA.len; omega) hA.hs⟩
end

end SH
/-! Words, stretches, and the words that no letter must stand ahead of: the longest words of the classes. -/
namespace Sam
abbrev Wd := List Nat
def Inner (D : List Wd) (u : Wd) : Prop := ∃ t ∈ D, ∃ x y, t = x ++ u ++ y
def Pre (D : List Wd) (u : Wd) : Prop := ∃ t ∈ D, ∃ y, t = u ++ y
/-- left-closed: a beginning of a text, or with two letters ahead -/
def LC (D : List Wd) (u : Wd) : Prop := Pre D u ∨ ∃ a b, a ≠ b ∧ Inner D (a :: u) ∧ Inner D (b :: u)
theorem Pre.inner {D : List Wd} {u : Wd} : Pre D u → Inner D u := fun ⟨t, m, y, e⟩ => ⟨t, m, [], y, by rw [e]; rfl⟩
theorem Inner.suf {D : List Wd} {u v : Wd} (h : Inner D v) (s : u <:+ v) : Inner D u := by
  obtain ⟨t, m, x, y, e⟩ := h
  obtain ⟨z, rfl⟩ := s
  exact ⟨t, m, x ++ z, y, by rw [e]; simp⟩
theorem Inner.left {D : List Wd} {u v : Wd} (h : Inner D (u ++ v)) : Inner D u := by
  obtain ⟨t, m, x, y, e⟩ := h
  exact ⟨t, m, x, v ++ y, by rw [e]; simp⟩
theorem LC.inner {D : List Wd} {u : Wd} (h : LC D u) : Inner D u := by
  rcases h with h | ⟨a, b, _, h, _⟩
  · exact h.inner
  · exact h.suf ⟨[a], rfl⟩
theorem LC.left {D : List Wd} {u v : Wd} (h : LC D (u ++ v)) : LC D u := by
  rcases h with ⟨t, m, y, e⟩ | ⟨a, b, n, h1, h2⟩
  · exact .inl ⟨t, m, v ++ y, by rw [e]; simp⟩
  · exact .inr ⟨a, b, n, Inner.left (u := a :: u) (v := v) h1, Inner.left (u := b :: u) (v := v) h2⟩
/-- v is the longest word of u's class, told by the longest words alone -/
def Ext (L : Wd → Prop) (u v : Wd) : Prop := L v ∧ u <:+ v ∧ ∀ w, L w → u <:+ w → w <:+ v → w = v
def Link (L : Wd → Prop) (v w : Wd) : Prop := L w ∧ w <:+ v ∧ w ≠ v ∧ ∀ x, L x → x <:+ v → x ≠ v → x <:+ w
theorem Ext.self {L : Wd → Prop} {u : Wd} (h : L u) : Ext L u u := ⟨h, List.suffix_refl _, fun _ _ h1 h2 => h2.eq_of_length (Nat.le_antisymm h2.length_le h1.length_le)⟩
theorem Ext.of_mem {L : Wd → Prop} {u v : Wd} (h : Ext L u v) (l : L u) : v = u := (h.2.2 u l (List.suffix_refl _) h.2.1).symm
theorem Ext.up {L : Wd → Prop} {u u' v : Wd} (h : Ext L u v) (s : u <:+ u') (t : u' <:+ v) : Ext L u' v := ⟨h.1, t, fun w l h1 h2 => h.2.2 w l (s.trans h1) h2⟩
theorem suf_of {a b c : Wd} (h1 : a <:+ c) (h2 : b <:+ c) (h : a.length ≤ b.length) : a <:+ b := List.suffix_of_suffix_length_le h1 h2 h
theorem suf_tot {a b c : Wd} (h1 : a <:+ c) (h2 : b <:+ c) : a <:+ b ∨ b <:+ a := (Nat.le_total a.length b.length).imp (suf_of h1 h2) (suf_of h2 h1)
theorem suf_cons {u v : Wd} (h : u <:+ v) (n : u ≠ v) : ∃ a, (a :: u) <:+ v := by
  obtain ⟨x, rfl⟩ := h
  have : x ≠ [] := fun z => n (by rw [z]; rfl)
  refine ⟨x.getLast this, x.dropLast, ?_⟩
  have e := List.dropLast_concat_getLast this
  calc x.dropLast ++ x.getLast this :: u = (x.dropLast ++ [x.getLast this]) ++ u := by simp
    _ = x ++ u := by rw [e]
theorem suf_antisymm {u v : Wd} (h1 : u <:+ v) (h2 : v <:+ u) : u = v := h1.eq_of_length (Nat.le_antisymm h1.length_le h2.length_le)
theorem cons_suf_inj {a b : Nat} {u v : Wd} (h1 : (a :: u) <:+ v) (h2 : (b :: u) <:+ v) : a = b := by
  have := suf_of h1 h2 (by simp)
  have := this.eq_of_length (by simp)
  injection this
/-- a step to the left -/
theorem ext_left {D : List Wd} {u v : Wd} (h : Ext (LC D) u v) (n : u ≠ v) : ¬ LC D u ∧ ∃ a, Ext (LC D) (a :: u) v := by
  refine ⟨fun l => n (h.of_mem l).symm, ?_⟩
  obtain ⟨a, ha⟩ := suf_cons h.2.1 n
  exact ⟨a, h.up ⟨[a], rfl⟩ ha⟩
theorem ext_uniq {D : List Wd} {v v' : Wd} : ∀ (n : Nat) {u : Wd}, v.length - u.length ≤ n → Ext (LC D) u v → Ext (LC D) u v' → v = v'
  | n, u, hn, h, h' => by
    by_cases l : LC D u
    · rw [h.of_mem l, h'.of_mem l]
    · have n1 : u ≠ v := fun e => l (by rw [e]; exact h.1)
      have n2 : u ≠ v' := fun e => l (by rw [e]; exact h'.1)
      obtain ⟨_, a, ha⟩ := ext_left h n1
      obtain ⟨_, b, hb⟩ := ext_left h' n2
      have e : a = b := Classical.byContradiction fun z => l (.inr ⟨a, b, z, ha.1.inner.suf ha.2.1, hb.1.inner.suf hb.2.1⟩)
      subst e
      have hl := ha.2.1.length_le
      rw [List.length_cons] at hl
      match n, hn with
      | 0, hn => omega
      | n + 1, hn => exact ext_uniq n (by rw [List.length_cons]; omega) ha hb
theorem Ext.uniq {D : List Wd} {u v v' : Wd} (h : Ext (LC D) u v) (h' : Ext (LC D) u v') : v = v' := ext_uniq _ (Nat.le_refl _) h h'
theorem maxlen (D : List Wd) : ∃ m, ∀ u, Inner D u → u.length ≤ m := by
  have key : ∀ (D : List Wd) (t : Wd), t ∈ D → t.length ≤ (D.map List.length).sum := by
    intro D
    induction D with
    | nil => intro t m; cases m
    | cons d r ih =>
      intro t m
      rw [List.map_cons, List.sum_cons]
      rcases List.mem_cons.mp m with e | m
      · rw [e]; omega
      · have := ih t m; omega
  refine ⟨(D.map List.length).sum, fun u ⟨t, m, x, y, e⟩ => ?_⟩
  have h1 : u.length ≤ t.length := by rw [e]; simp; omega
  have h2 := key D t m
  omega
theorem ext_ex {D : List Wd} {m : Nat} (hm : ∀ u, Inner D u → u.length ≤ m) : ∀ (n : Nat) {u : Wd}, m - u.length ≤ n → Inner D u → ∃ v, Ext (LC D) u v
  | n, u, hn, h => by
    by_cases l : LC D u
    · exact ⟨u, .self l⟩
    · obtain ⟨t, mt, x, y, e⟩ := h
      have nx : x ≠ [] := fun z => l (.inl ⟨t, mt, y, by rw [e, z]; rfl⟩)
      have ex := List.dropLast_concat_getLast nx
      have h2 : Inner D (x.getLast nx :: u) := ⟨t, mt, x.dropLast, y, by rw [e]; (conv => lhs; rw [← ex]); simp⟩
      have hl := hm _ h2
      rw [List.length_cons] at hl
      match n, hn with
      | 0, hn => omega
      | n + 1, hn =>
        obtain ⟨v, hv⟩ := ext_ex hm n (u := x.getLast nx :: u) (by rw [List.length_cons]; omega) h2
        refine ⟨v, hv.1, List.IsSuffix.trans ⟨[x.getLast nx], rfl⟩ hv.2.1, fun w lw h1 h3 => ?_⟩
        by_cases e2 : u = w
        · exact absurd (e2 ▸ lw) l
        · obtain ⟨b, hb⟩ := suf_cons h1 e2
          have : b = x.getLast nx := cons_suf_inj (hb.trans h3) hv.2.1
          subst this
          exact hv.2.2 w lw hb h3
theorem Inner.ext {D : List Wd} {u : Wd} (h : Inner D u) : ∃ v, Ext (LC D) u v := by
  obtain ⟨m, hm⟩ := maxlen D
  exact ext_ex hm _ (Nat.le_refl _) h
theorem Ext.inner {D : List Wd} {u v : Wd} (h : Ext (LC D) u v) : Inner D u := h.1.inner.suf h.2.1
/-- where u stands, v stands -/
theorem ext_occ {D : List Wd} {v : Wd} : ∀ (n : Nat) {u : Wd}, v.length - u.length ≤ n → Ext (LC D) u v → ∀ {t x y : Wd}, t ∈ D → t = x ++ u ++ y → ∃ x', t = x' ++ v ++ y
  | n, u, hn, h, t, x, y, mt, e => by
    by_cases n1 : u = v
    · exact ⟨x, by rw [← n1]; exact e⟩
    · obtain ⟨nl, a, ha⟩ := ext_left h n1
      have nx : x ≠ [] := fun z => nl (.inl ⟨t, mt, y, by rw [e, z]; rfl⟩)
      have ex := List.dropLast_concat_getLast nx
      have e2 : t = x.dropLast ++ (x.getLast nx :: u) ++ y := by rw [e]; (conv => lhs; rw [← ex]); simp
      have h2 : Inner D (x.getLast nx :: u) := ⟨t, mt, x.dropLast, y, e2⟩
      have ea : a = x.getLast nx := Classical.byContradiction fun z => nl (.inr ⟨a, _, z, ha.inner, h2⟩)
      rw [← ea] at e2
      have hl := ha.2.1.length_le
      rw [List.length_cons] at hl
      match n, hn with
      | 0, hn => omega
      | n + 1, hn => exact ext_occ n (by rw [List.length_cons]; omega) ha mt e2
theorem Ext.occ {D : List Wd} {u v t x y : Wd} (h : Ext (LC D) u v) (mt : t ∈ D) (e : t = x ++ u ++ y) : ∃ x', t = x' ++ v ++ y := ext_occ _ (Nat.le_refl _) h mt e
theorem Ext.inner_app {D : List Wd} {u v y : Wd} (h : Ext (LC D) u v) : Inner D (u ++ y) ↔ Inner D (v ++ y) := by
  constructor
  · rintro ⟨t, m, x, z, e⟩
    obtain ⟨x', e'⟩ := h.occ (x := x) (y := y ++ z) m (by rw [e]; simp)
    exact ⟨t, m, x', z, by rw [e']; simp⟩
  · intro i
    obtain ⟨s, rfl⟩ := h.2.1
    exact i.suf ⟨s, by simp⟩
theorem suf_app {u v y : Wd} (h : u <:+ v) : (u ++ y) <:+ (v ++ y) := by
  obtain ⟨s, rfl⟩ := h
  exact ⟨s, by simp⟩
theorem suf_snoc {u v : Wd} {c d : Nat} (h : (u ++ [c]) <:+ (v ++ [d])) : c = d ∧ u <:+ v := by
  obtain ⟨s, e⟩ := h
  rw [← List.append_assoc] at e
  have := List.append_inj' e rfl
  exact ⟨by simpa using this.2, ⟨s, this.1⟩⟩
/-- longer words of one class lead to one class -/
theorem ext_app {D : List Wd} {u v z : Wd} {d : Nat} (h : Ext (LC D) u v) : Ext (LC D) (u ++ [d]) z ↔ Ext (LC D) (v ++ [d]) z := by
  constructor
  · intro hz
    have i : Inner D (v ++ [d]) := h.inner_app.mp hz.inner
    obtain ⟨z', hz'⟩ := i.ext
    have : Ext (LC D) (u ++ [d]) z' := by
      refine ⟨hz'.1, (suf_app h.2.1).trans hz'.2.1, fun w lw h1 h2 => ?_⟩
      rcases suf_tot hz'.2.1 h2 with s | s
      · exact hz'.2.2 w lw s h2
      · -- w is within v d
        obtain ⟨w', rfl⟩ : ∃ w', w = w' ++ [d] := by
          obtain ⟨s', e'⟩ := h1
          exact ⟨s' ++ u, by rw [← e']; simp⟩
        have lw' := lw.left
        have := h.2.2 w' lw' (suf_snoc h1).2 (suf_snoc s).2
        subst this
        exact hz'.2.2 _ lw (List.suffix_refl _) h2
    exact hz.uniq this ▸ hz'
  · intro hz
    refine ⟨hz.1, (suf_app h.2.1).trans hz.2.1, fun w lw h1 h2 => ?_⟩
    rcases suf_tot hz.2.1 h2 with s | s
    · exact hz.2.2 w lw s h2
    · obtain ⟨w', rfl⟩ : ∃ w', w = w' ++ [d] := by
        obtain ⟨s', e'⟩ := h1
        exact ⟨s' ++ u, by rw [← e']; simp⟩
      have := h.2.2 w' lw.left (suf_snoc h1).2 (suf_snoc s).2
      subst this
      exact hz.2.2 _ lw (List.suffix_refl _) h2
end Sam
set_option linter.all false
/-! A word more among the longest ones: what becomes of the classes. -/
namespace Sam
theorem Link.uniq {L : Wd → Prop} {v w w' : Wd} (h : Link L v w) (h' : Link L v w') : w = w' :=
  suf_antisymm (h'.2.2.2 w h.1 h.2.1 h.2.2.1) (h.2.2.2 w' h'.1 h'.2.1 h'.2.2.1)
theorem link_ex {L : Wd → Prop} (h0 : L []) : ∀ v : Wd, v ≠ [] → ∃ w, Link L v w
  | [], n => absurd rfl n
  | a :: u, _ => by
    have su : u <:+ (a :: u) := ⟨[a], rfl⟩
    have nu : u ≠ a :: u := fun e => by have := congrArg List.length e; simp at this
    have cut : ∀ x : Wd, x <:+ (a :: u) → x ≠ a :: u → x <:+ u := fun x h n => by
      rcases List.suffix_cons_iff.mp h with e | s
      · exact absurd e n
      · exact s
    by_cases l : L u
    · exact ⟨u, l, su, nu, fun x _ h n => cut x h n⟩
    · have n : u ≠ [] := fun e => l (e ▸ h0)
      obtain ⟨w, h1, h2, h3, h4⟩ := link_ex h0 u n
      refine ⟨w, h1, h2.trans su, fun e => ?_, fun x lx h n => h4 x lx (cut x h n) fun e => l (e ▸ lx)⟩
      have := h2.length_le
      rw [e, List.length_cons] at this
      omega
/-! a word m within v's class becomes a longest one -/
section
variable {D : List Wd} {L' : Wd → Prop} {m v : Wd} (hm : Ext (LC D) m v) (nm : ¬ LC D m) (hL : ∀ w, L' w ↔ LC D w ∨ w = m)
include hm nm hL
theorem split_ne : v ≠ m := fun e => nm (e ▸ hm.1)
theorem split_cut {x : Wd} (lx : LC D x) (s : x <:+ v) (n : x ≠ v) : x <:+ m ∧ x ≠ m := by
  refine ⟨?_, fun e => nm (e ▸ lx)⟩
  rcases suf_tot s hm.2.1 with h | h
  · exact h
  · exact absurd (hm.2.2 x lx h s) n
theorem split_ext_new {u : Wd} : Ext L' u m ↔ u <:+ m ∧ Ext (LC D) u v := by
  constructor
  · rintro ⟨_, s, h⟩
    refine ⟨s, hm.1, s.trans hm.2.1, fun w lw h1 h2 => Classical.byContradiction fun n => ?_⟩
    obtain ⟨c1, c2⟩ := split_cut hm nm hL lw h2 n
    exact c2 (h w ((hL w).mpr (.inl lw)) h1 c1)
  · rintro ⟨s, h⟩
    refine ⟨(hL m).mpr (.inr rfl), s, fun w lw h1 h2 => ?_⟩
    rcases (hL w).mp lw with l | e
    · have e := h.2.2 w l h1 (h2.trans hm.2.1)
      have := h2.length_le
      exact absurd (suf_antisymm h2 (e ▸ hm.2.1)) fun e2 => nm (e2 ▸ l)
    · exact e
theorem split_ext_old {u z : Wd} (nz : z ≠ m) : Ext L' u z ↔ Ext (LC D) u z ∧ ¬ (u <:+ m ∧ z = v) := by
  constructor
  · rintro ⟨l, s, h⟩
    have lz : LC D z := ((hL z).mp l).resolve_right nz
    refine ⟨⟨lz, s, fun w lw => h w ((hL w).mpr (.inl lw))⟩, ?_⟩
    rintro ⟨s2, e⟩
    exact nz (h m ((hL m).mpr (.inr rfl)) s2 (e ▸ hm.2.1)).symm
  · rintro ⟨h, n⟩
    refine ⟨(hL z).mpr (.inl h.1), h.2.1, fun w lw h1 h2 => ?_⟩
    rcases (hL w).mp lw with l | e
    · exact h.2.2 w l h1 h2
    · rw [e] at h1 h2
      exact absurd ⟨h1, (h.up h1 h2).uniq hm⟩ n
theorem split_link_new {w : Wd} : Link L' m w ↔ Link (LC D) v w := by
  constructor
  · rintro ⟨l, s, n, h⟩
    have lw := ((hL w).mp l).resolve_right n
    refine ⟨lw, s.trans hm.2.1, fun e => ?_, fun x lx h1 h2 => ?_⟩
    · exact nm (suf_antisymm s (e ▸ hm.2.1) ▸ lw)
    · obtain ⟨c1, c2⟩ := split_cut hm nm hL lx h1 h2
      exact h x ((hL x).mpr (.inl lx)) c1 c2
  · rintro ⟨l, s, n, h⟩
    obtain ⟨c1, c2⟩ := split_cut hm nm hL l s n
    refine ⟨(hL w).mpr (.inl l), c1, c2, fun x lx h1 h2 => ?_⟩
    have l2 := ((hL x).mp lx).resolve_right h2
    exact h x l2 (h1.trans hm.2.1) fun e => nm (suf_antisymm h1 (e ▸ hm.2.1) ▸ l2)
theorem split_link_v {w : Wd} : Link L' v w ↔ w = m := by
  have key : Link L' v m := by
    refine ⟨(hL m).mpr (.inr rfl), hm.2.1, fun e => nm (e ▸ hm.1), fun x lx h1 h2 => ?_⟩
    rcases (hL x).mp lx with l | e
    · exact (split_cut hm nm hL l h1 h2).1
    · exact e ▸ List.suffix_refl _
  exact ⟨fun h => h.uniq key, fun e => e ▸ key⟩
theorem split_link_old {z w : Wd} (lz : LC D z) (nz : z ≠ v) : Link L' z w ↔ Link (LC D) z w := by
  have nzm : z ≠ m := fun e => nm (e ▸ lz)
  constructor
  · rintro ⟨l, s, n, h⟩
    have lw : LC D w := by
      rcases (hL w).mp l with l | e
      · exact l
      · refine absurd ?_ nz
        rw [e] at s n h
        refine (Ext.uniq (u := m) ⟨lz, s, fun x lx h1 h2 => Classical.byContradiction fun n2 => ?_⟩ hm)
        have := h x ((hL x).mpr (.inl lx)) h2 n2
        exact nm (suf_antisymm this h1 ▸ lx)
    exact ⟨lw, s, n, fun x lx => h x ((hL x).mpr (.inl lx))⟩
  · rintro ⟨l, s, n, h⟩
    refine ⟨(hL w).mpr (.inl l), s, n, fun x lx h1 h2 => ?_⟩
    rcases (hL x).mp lx with l2 | e
    · exact h x l2 h1 h2
    · rw [e] at h1 ⊢
      rcases suf_tot h1 s with q | q
      · exact q
      · refine absurd ((Ext.uniq (u := m) ⟨lz, h1, fun x lx h3 h4 => Classical.byContradiction fun n2 => ?_⟩ hm)) nz
        have := h x lx h4 n2
        exact nm (suf_antisymm (this.trans q) h3 ▸ lx)
end
/-! a word f that stands nowhere else becomes one -/
section
variable {L L' : Wd → Prop} {f : Wd} (nf : ∀ w, L w → ¬ f <:+ w) (hL : ∀ w, L' w ↔ L w ∨ w = f)
include nf hL
theorem fresh_ext_new {u : Wd} : Ext L' u f ↔ u <:+ f ∧ ∀ w, L w → u <:+ w → ¬ w <:+ f := by
  constructor
  · rintro ⟨_, s, h⟩
    refine ⟨s, fun w lw h1 h2 => ?_⟩
    have := h w ((hL w).mpr (.inl lw)) h1 h2
    exact nf w lw (this ▸ List.suffix_refl _)
  · rintro ⟨s, h⟩
    refine ⟨(hL f).mpr (.inr rfl), s, fun w lw h1 h2 => ?_⟩
    rcases (hL w).mp lw with l | e
    · exact absurd h2 (h w l h1)
    · exact e
theorem fresh_ext_old {u z : Wd} (nz : z ≠ f) : Ext L' u z ↔ Ext L u z := by
  constructor
  · rintro ⟨l, s, h⟩
    exact ⟨((hL z).mp l).resolve_right nz, s, fun w lw => h w ((hL w).mpr (.inl lw))⟩
  · rintro ⟨l, s, h⟩
    refine ⟨(hL z).mpr (.inl l), s, fun w lw h1 h2 => ?_⟩
    rcases (hL w).mp lw with q | e
    · exact h w q h1 h2
    · exact absurd (e ▸ h2) (nf z l)
theorem fresh_link_old {z w : Wd} (lz : L z) : Link L' z w ↔ Link L z w := by
  constructor
  · rintro ⟨l, s, n, h⟩
    refine ⟨((hL w).mp l).resolve_right fun e => nf z lz (e ▸ s), s, n, fun x lx => h x ((hL x).mpr (.inl lx))⟩
  · rintro ⟨l, s, n, h⟩
    refine ⟨(hL w).mpr (.inl l), s, n, fun x lx h1 h2 => ?_⟩
    rcases (hL x).mp lx with q | e
    · exact h x q h1 h2
    · exact absurd (e ▸ h1) (nf z lz)
theorem fresh_link_new {w : Wd} : Link L' f w ↔ L w ∧ w <:+ f ∧ ∀ x, L x → x <:+ f → x <:+ w := by
  constructor
  · rintro ⟨l, s, n, h⟩
    refine ⟨((hL w).mp l).resolve_right n, s, fun x lx h1 => h x ((hL x).mpr (.inl lx)) h1 fun e => nf x lx (e ▸ List.suffix_refl _)⟩
  · rintro ⟨l, s, h⟩
    refine ⟨(hL w).mpr (.inl l), s, fun e => nf w l (e ▸ List.suffix_refl _), fun x lx h1 h2 => h x (((hL x).mp lx).resolve_right h2) h1⟩
end
/-! a text grows by a letter -/
structure Grow (D D' : List Wd) (p : Wd) (c : Nat) : Prop where
  inn : ∀ u, Inner D' u ↔ Inner D u ∨ u <:+ p ++ [c]
  pre : ∀ u, Pre D' u ↔ Pre D u ∨ u = p ++ [c]
  hp : Pre D p
theorem suf_snoc_cases {u p : Wd} {c : Nat} (h : u <:+ p ++ [c]) : u = [] ∨ ∃ u', u = u' ++ [c] ∧ u' <:+ p := by
  rcases List.eq_nil_or_concat u with e | ⟨u', d, e⟩
  · exact .inl e
  · right
    rw [e, List.concat_eq_append] at h
    obtain ⟨q, s⟩ := suf_snoc h
    exact ⟨u', by rw [e, q, List.concat_eq_append], s⟩
theorem grow_of (D0 : List Wd) (p : Wd) (c : Nat) : Grow (D0 ++ [p]) (D0 ++ [p ++ [c]]) p c := by
  refine ⟨fun u => ?_, fun u => ?_, ⟨p, by simp, [], by simp⟩⟩
  · constructor
    · rintro ⟨t, m, x, y, e⟩
      rcases List.mem_append.mp m with m | m
      · exact .inl ⟨t, List.mem_append_left _ m, x, y, e⟩
      · rw [List.mem_singleton.mp m] at e
        rcases List.eq_nil_or_concat y with e2 | ⟨y', d, e2⟩
        · right
          rw [e2, List.append_nil] at e
          exact ⟨x, e.symm⟩
        · left
          rw [e2, List.concat_eq_append, ← List.append_assoc] at e
          exact ⟨p, by simp, x, y', (List.append_inj' e rfl).1⟩
    · rintro (⟨t, m, x, y, e⟩ | ⟨x, e⟩)
      · rcases List.mem_append.mp m with m | m
        · exact ⟨t, List.mem_append_left _ m, x, y, e⟩
        · rw [List.mem_singleton.mp m] at e
          exact ⟨p ++ [c], by simp, x, y ++ [c], by rw [e]; simp⟩
      · exact ⟨p ++ [c], by simp, x, [], by rw [← e]; simp⟩
  · constructor
    · rintro ⟨t, m, y, e⟩
      rcases List.mem_append.mp m with m | m
      · exact .inl ⟨t, List.mem_append_left _ m, y, e⟩
      · rw [List.mem_singleton.mp m] at e
        rcases List.eq_nil_or_concat y with e2 | ⟨y', d, e2⟩
        · right
          rw [e2, List.append_nil] at e
          exact e.symm
        · left
          rw [e2, List.concat_eq_append, ← List.append_assoc] at e
          exact ⟨p, by simp, y', (List.append_inj' e rfl).1⟩
    · rintro (⟨t, m, y, e⟩ | e)
      · rcases List.mem_append.mp m with m | m
        · exact ⟨t, List.mem_append_left _ m, y, e⟩
        · rw [List.mem_singleton.mp m] at e
          exact ⟨p ++ [c], by simp, y ++ [c], by rw [e]; simp⟩
      · exact ⟨p ++ [c], by simp, [], by rw [e]; simp⟩
section
variable {D D' : List Wd} {p : Wd} {c : Nat} (G : Grow D D' p c)
include G
theorem Grow.nil : LC D [] := by
  obtain ⟨t, m, y, e⟩ := G.hp
  exact .inl ⟨t, m, p ++ y, by rw [e]; simp⟩
theorem Grow.lcp : LC D p := .inl G.hp
theorem Grow.mono {w : Wd} (h : LC D w) : LC D' w := by
  rcases h with h | ⟨a, b, n, h1, h2⟩
  · exact .inl ((G.pre w).mpr (.inl h))
  · exact .inr ⟨a, b, n, (G.inn _).mpr (.inl h1), (G.inn _).mpr (.inl h2)⟩
theorem Grow.lc_new : LC D' (p ++ [c]) := .inl ((G.pre _).mpr (.inr rfl))
/-- the word stands already -/
theorem Grow.lc_old (i : Inner D (p ++ [c])) (w : Wd) : LC D' w ↔ LC D w ∨ w = p ++ [c] := by
  have inn : ∀ u, Inner D' u → Inner D u := fun u h => ((G.inn u).mp h).elim id fun s => i.suf s
  constructor
  · rintro (h | ⟨a, b, n, h1, h2⟩)
    · exact ((G.pre w).mp h).imp .inl id
    · exact .inl (.inr ⟨a, b, n, inn _ h1, inn _ h2⟩)
  · rintro (h | e)
    · exact G.mono h
    · exact e ▸ G.lc_new
/-- a word at the end of p that the letter follows somewhere is within such a longest word -/
theorem Grow.up : ∀ (n : Nat) {u : Wd}, p.length - u.length ≤ n → u <:+ p → Inner D (u ++ [c]) → ∃ q, LC D q ∧ u <:+ q ∧ q <:+ p ∧ Inner D (q ++ [c])
  | n, u, hn, s, i => by
    by_cases l : LC D u
    · exact ⟨u, l, List.suffix_refl _, s, i⟩
    · have ne : u ≠ p := fun e => l (e ▸ G.lcp)
      obtain ⟨a, ha⟩ := suf_cons s ne
      obtain ⟨t, mt, x, y, e⟩ := i
      have nx : x ≠ [] := fun z => l (.inl ⟨t, mt, [c] ++ y, by rw [e, z]; simp⟩)
      have ex := List.dropLast_concat_getLast nx
      have i2 : Inner D ((x.getLast nx :: u) ++ [c]) := ⟨t, mt, x.dropLast, y, by rw [e]; (conv => lhs; rw [← ex]); simp⟩
      have ea : a = x.getLast nx := Classical.byContradiction fun z => l (.inr ⟨a, _, z, G.hp.inner.suf ha, i2.left⟩)
      rw [← ea] at i2
      have hl := ha.length_le
      rw [List.length_cons] at hl
      match n, hn with
      | 0, hn => omega
      | n + 1, hn =>
        obtain ⟨q, h1, h2, h3, h4⟩ := Grow.up n (u := a :: u) (by rw [List.length_cons]; omega) ha i2
        exact ⟨q, h1, List.IsSuffix.trans ⟨[a], rfl⟩ h2, h3, h4⟩
/-- no word at the end of p is followed by the letter -/
theorem Grow.lc_none (h : ∀ u, u <:+ p → ¬ Inner D (u ++ [c])) (w : Wd) : LC D' w ↔ LC D w ∨ w = p ++ [c] := by
  constructor
  · rintro (h1 | ⟨a, b, n, h1, h2⟩)
    · exact ((G.pre w).mp h1).imp .inl id
    · have one : ∀ a b, a ≠ b → a :: w <:+ p ++ [c] → Inner D (b :: w) → LC D w := fun a b n h1 h2 => by
        have : w <:+ p ++ [c] := List.IsSuffix.trans ⟨[a], rfl⟩ h1
        rcases suf_snoc_cases this with e | ⟨w', e, s⟩
        · exact e ▸ G.nil
        · exact absurd (h2.suf ⟨[b], rfl⟩) (e ▸ h w' s)
      rcases (G.inn _).mp h1 with i1 | s1
      · rcases (G.inn _).mp h2 with i2 | s2
        · exact .inl (.inr ⟨a, b, n, i1, i2⟩)
        · exact .inl (one b a (Ne.symm n) s2 i1)
      · rcases (G.inn _).mp h2 with i2 | s2
        · exact .inl (one a b n s1 i2)
        · exact absurd (cons_suf_inj s1 s2) n
  · rintro (h | e)
    · exact G.mono h
    · exact e ▸ G.lc_new
/-- q is the longest one that the letter follows -/
theorem Grow.lc_some {q : Wd} (np : ¬ Inner D (p ++ [c])) (sq : q <:+ p) (iq : Inner D (q ++ [c])) (mx : ∀ u, u <:+ p → Inner D (u ++ [c]) → u <:+ q) (w : Wd) :
    LC D' w ↔ (LC D w ∨ w = q ++ [c]) ∨ w = p ++ [c] := by
  have qp : q ≠ p := fun e => np (e ▸ iq)
  constructor
  · rintro (h1 | ⟨a, b, n, h1, h2⟩)
    · exact ((G.pre w).mp h1).imp (fun h => .inl (.inl h)) id
    · have one : ∀ a b, a ≠ b → a :: w <:+ p ++ [c] → Inner D (b :: w) → ¬ Inner D (a :: w) → LC D w ∨ w = q ++ [c] := fun a b n h1 h2 h3 => by
        have : w <:+ p ++ [c] := List.IsSuffix.trans ⟨[a], rfl⟩ h1
        rcases suf_snoc_cases this with e | ⟨w', e, s⟩
        · exact .inl (e ▸ G.nil)
        · right
          subst e
          have s2 := mx w' s (h2.suf ⟨[b], rfl⟩)
          have s3 : a :: w' <:+ p := (suf_snoc (u := a :: w') (v := p) h1).2
          by_cases e2 : w' = q
          · rw [e2]
          · obtain ⟨a', ha'⟩ := suf_cons s2 e2
            have := cons_suf_inj (ha'.trans sq) s3
            subst this
            exact absurd (iq.suf (suf_app (y := [c]) ha')) h3
      rcases (G.inn _).mp h1 with i1 | s1
      · rcases (G.inn _).mp h2 with i2 | s2
        · exact .inl (.inl (.inr ⟨a, b, n, i1, i2⟩))
        · by_cases i2 : Inner D (b :: w)
          · exact .inl (.inl (.inr ⟨a, b, n, i1, i2⟩))
          · exact .inl (one b a (Ne.symm n) s2 i1 i2)
      · rcases (G.inn _).mp h2 with i2 | s2
        · by_cases i1 : Inner D (a :: w)
          · exact .inl (.inl (.inr ⟨a, b, n, i1, i2⟩))
          · exact .inl (one a b n s1 i2 i1)
        · exact absurd (cons_suf_inj s1 s2) n
  · rintro ((h | e) | e)
    · exact G.mono h
    · subst e
      by_cases l : LC D (q ++ [c])
      · exact G.mono l
      · obtain ⟨a, ha⟩ := suf_cons sq qp
        obtain ⟨t, mt, x, y, e⟩ := iq
        have nx : x ≠ [] := fun z => l (.inl ⟨t, mt, y, by rw [e, z]; simp⟩)
        have ex := List.dropLast_concat_getLast nx
        have i2 : Inner D ((x.getLast nx :: q) ++ [c]) := ⟨t, mt, x.dropLast, y, by rw [e]; (conv => lhs; rw [← ex]); simp⟩
        refine .inr ⟨a, x.getLast nx, fun z => ?_, (G.inn _).mpr (.inr (suf_app (y := [c]) ha)), (G.inn _).mpr (.inl i2)⟩
        have := (mx (a :: q) ha (z ▸ i2)).length_le
        rw [List.length_cons] at this
        omega
    · exact e ▸ G.lc_new
end
end Sam
set_option linter.all false
/-! The machine grown letter by letter. -/
namespace Sam
/-- the classes so far: how many, their edges, sizes and links -/
structure G where
  n : Nat
  ed : Nat → Nat → Option Nat
  sz : Nat → Nat
  lk : Nat → Option Nat
def up1 {α : Type} (f : Nat → α) (i : Nat) (v : α) : Nat → α := fun x => if x = i then v else f x
theorem up1_same {α : Type} {f : Nat → α} {i : Nat} {v : α} : up1 f i v i = v := if_pos rfl
theorem up1_ne {α : Type} {f : Nat → α} {i j : Nat} {v : α} (h : j ≠ i) : up1 f i v j = f j := if_neg h
def chn (lk : Nat → Option Nat) : Nat → Nat → List Nat
  | 0, _ => []
  | k + 1, s => s :: match lk s with
    | none => []
    | some t => chn lk k t
/-- a class, its link, and so on -/
def chain (g : G) (s : Nat) : List Nat := chn g.lk (g.sz s + 1) s
def addG (g : G) (size : Nat) (ed : Nat → Option Nat) (link : Option Nat) : G := ⟨g.n + 1, up1 g.ed g.n ed, up1 g.sz g.n size, up1 g.lk g.n link⟩
def setLk (g : G) (i : Nat) (t : Option Nat) : G := ⟨g.n, g.ed, g.sz, up1 g.lk i t⟩
def setEd (g : G) (c t : Nat) (xs : List Nat) : G := ⟨g.n, fun x d => if d = c ∧ x ∈ xs then some t else g.ed x d, g.sz, g.lk⟩
def redOf (g : G) (s c old : Nat) : List Nat := (chain g s).takeWhile fun x => decide (g.ed x c = some old)
def preOf (g : G) (s c : Nat) : List Nat := (chain g s).takeWhile fun x => decide (g.ed x c = none)
def nextOf (g : G) (s c : Nat) : Option Nat := ((chain g s).dropWhile fun x => decide (g.ed x c = none)).head?
def ledTo (g : G) (s c : Nat) : G × Nat := match g.ed s c with
  | none => (g, 0)
  | some old => if g.sz old = g.sz s + 1 then (g, old) else (setEd (setLk (addG g (g.sz s + 1) (g.ed old) (g.lk old)) old (some g.n)) c g.n (redOf g s c old), g.n)
def after (g : G) (s c : Nat) : G × Nat := match g.ed s c with
  | some _ => ledTo g s c
  | none =>
    let g2 := setEd (addG g (g.sz s + 1) (fun _ => none) (some 0)) c g.n (preOf g s c)
    match nextOf g s c with
    | none => (g2, g.n)
    | some q => (setLk (ledTo g2 q c).1 g.n (some (ledTo g2 q c).2), g.n)
/-- what the classes stand for -/
structure Inv (L : Wd → Prop) (g : G) (rep : Nat → Wd) : Prop where
  n0 : 0 < g.n
  r0 : rep 0 = []
  inj : ∀ i j, i < g.n → j < g.n → rep i = rep j → i = j
  lc : ∀ w, L w ↔ ∃ i, i < g.n ∧ rep i = w
  sz : ∀ i, i < g.n → g.sz i = (rep i).length
  ed : ∀ i, i < g.n → ∀ c j, g.ed i c = some j ↔ j < g.n ∧ Ext L (rep i ++ [c]) (rep j)
  lk : ∀ i, i < g.n → ∀ j, g.lk i = some j ↔ j < g.n ∧ Link L (rep i) (rep j)
section
variable {L : Wd → Prop} {g : G} {rep : Nat → Wd} (I : Inv L g rep)
include I
theorem Inv.mem {i : Nat} (h : i < g.n) : L (rep i) := (I.lc _).mpr ⟨i, h, rfl⟩
theorem Inv.dec {i j : Nat} (h : i < g.n) (e : g.lk i = some j) : j < g.n ∧ g.sz j < g.sz i ∧ rep j <:+ rep i ∧ rep j ≠ rep i := by
  obtain ⟨hj, l⟩ := (I.lk i h j).mp e
  refine ⟨hj, ?_, l.2.1, l.2.2.1⟩
  rw [I.sz i h, I.sz j hj]
  exact Nat.lt_of_le_of_ne l.2.1.length_le fun e => l.2.2.1 (l.2.1.eq_of_length e)
theorem Inv.lk_none {i : Nat} (h : i < g.n) (e : g.lk i = none) : rep i = [] := by
  refine Classical.byContradiction fun n => ?_
  obtain ⟨w, hw⟩ := link_ex (L := L) (I.r0 ▸ I.mem I.n0) _ n
  obtain ⟨j, hj, ej⟩ := (I.lc w).mp hw.1
  have := (I.lk i h j).mpr ⟨hj, ej ▸ hw⟩
  rw [e] at this
  cases this
theorem Inv.chn_fuel : ∀ (k k' : Nat) {s : Nat}, s < g.n → g.sz s < k → g.sz s < k' → chn g.lk k s = chn g.lk k' s
  | 0, _, _, _, h, _ => absurd h (Nat.not_lt_zero _)
  | _, 0, _, _, _, h => absurd h (Nat.not_lt_zero _)
  | k + 1, k' + 1, s, hs, h1, h2 => by
    rw [chn, chn]
    cases e : g.lk s with
    | none => rfl
    | some t =>
      obtain ⟨ht, hz, _⟩ := I.dec hs e
      show s :: chn g.lk k t = s :: chn g.lk k' t
      rw [Inv.chn_fuel k k' ht (by omega) (by omega)]
theorem Inv.chain_eq {s : Nat} (h : s < g.n) : chain g s = s :: match g.lk s with
    | none => []
    | some t => chain g t := by
  unfold chain
  rw [chn]
  cases e : g.lk s with
  | none => rfl
  | some t =>
    obtain ⟨ht, hz, _⟩ := I.dec h e
    show s :: chn g.lk (g.sz s) t = s :: chn g.lk (g.sz t + 1) t
    rw [I.chn_fuel _ _ ht hz (Nat.lt_succ_self _)]
/-- the chain: all classes whose longest words stand at the end of s's, longest first -/
theorem Inv.chain_ok : ∀ (k : Nat) {s : Nat}, s < g.n → g.sz s ≤ k → (∀ j, j ∈ chain g s ↔ j < g.n ∧ rep j <:+ rep s) ∧ (chain g s).Pairwise (fun a b => rep b <:+ rep a ∧ rep b ≠ rep a)
  | k, s, hs, hk => by
    rw [I.chain_eq hs]
    cases e : g.lk s with
    | none =>
      have z := I.lk_none hs e
      refine ⟨fun j => ?_, by simp⟩
      rw [List.mem_singleton]
      constructor
      · rintro rfl
        exact ⟨hs, List.suffix_refl _⟩
      · rintro ⟨hj, s2⟩
        rw [z] at s2
        exact I.inj j s hj hs (by rw [List.suffix_nil.mp s2, z])
    | some t =>
      obtain ⟨ht, hz, h1, h2⟩ := I.dec hs e
      have link := ((I.lk s hs t).mp e).2
      match k, hk with
      | 0, hk => omega
      | k + 1, hk =>
        obtain ⟨c1, c2⟩ := Inv.chain_ok k ht (by omega)
        refine ⟨fun j => ?_, ?_⟩
        · show j ∈ s :: chain g t ↔ _
          rw [List.mem_cons, c1]
          constructor
          · rintro (rfl | ⟨hj, q⟩)
            · exact ⟨hs, List.suffix_refl _⟩
            · exact ⟨hj, q.trans h1⟩
          · rintro ⟨hj, q⟩
            by_cases e2 : rep j = rep s
            · exact .inl (I.inj j s hj hs e2)
            · exact .inr ⟨hj, link.2.2.2 _ (I.mem hj) q e2⟩
        · show (s :: chain g t).Pairwise _
          rw [List.pairwise_cons]
          refine ⟨fun j hj => ?_, c2⟩
          obtain ⟨hj2, q⟩ := (c1 j).mp hj
          refine ⟨q.trans h1, fun e2 => h2 (suf_antisymm h1 (e2 ▸ q))⟩
theorem Inv.mem_chain {s j : Nat} (h : s < g.n) : j ∈ chain g s ↔ j < g.n ∧ rep j <:+ rep s := (I.chain_ok _ h (Nat.le_refl _)).1 j
theorem Inv.chain_pw {s : Nat} (h : s < g.n) : (chain g s).Pairwise (fun a b => rep b <:+ rep a ∧ rep b ≠ rep a) := (I.chain_ok _ h (Nat.le_refl _)).2
end
theorem mem_tw {α : Type} {R : α → α → Prop} {p : α → Bool} : ∀ {l : List α}, l.Pairwise R → (∀ x y, R x y → p y = true → p x = true) → ∀ x, x ∈ l.takeWhile p ↔ x ∈ l ∧ p x = true
  | [], _, _, x => by simp
  | a :: l, h, m, x => by
    rw [List.pairwise_cons] at h
    by_cases c : p a = true
    · rw [List.takeWhile_cons_of_pos c, List.mem_cons, List.mem_cons, mem_tw h.2 m x]
      constructor
      · rintro (e | ⟨h1, h2⟩)
        · exact ⟨.inl e, e ▸ c⟩
        · exact ⟨.inr h1, h2⟩
      · rintro ⟨e | h1, h2⟩
        · exact .inl e
        · exact .inr ⟨h1, h2⟩
    · rw [List.takeWhile_cons_of_neg c]
      constructor
      · intro z; cases z
      · rintro ⟨h1, h2⟩
        rcases List.mem_cons.mp h1 with e | h3
        · exact absurd (e ▸ h2) c
        · exact absurd (m a x (h.1 x h3) h2) c
theorem dw_none {α : Type} {p : α → Bool} : ∀ {l : List α}, (l.dropWhile p).head? = none → ∀ x ∈ l, p x = true
  | [], _, x, h => by cases h
  | a :: l, h, x, hx => by
    by_cases c : p a = true
    · rw [List.dropWhile_cons_of_pos c] at h
      rcases List.mem_cons.mp hx with e | m
      · exact e ▸ c
      · exact dw_none h x m
    · rw [List.dropWhile_cons_of_neg c] at h
      cases h
theorem dw_some {α : Type} {R : α → α → Prop} {p : α → Bool} : ∀ {l : List α} {q : α}, l.Pairwise R → (l.dropWhile p).head? = some q → q ∈ l ∧ p q = false ∧ ∀ x ∈ l, p x = false → x = q ∨ R q x
  | [], _, _, h => by cases h
  | a :: l, q, hp, h => by
    rw [List.pairwise_cons] at hp
    by_cases c : p a = true
    · rw [List.dropWhile_cons_of_pos c] at h
      obtain ⟨h1, h2, h3⟩ := dw_some hp.2 h
      refine ⟨List.mem_cons_of_mem _ h1, h2, fun x hx hn => ?_⟩
      rcases List.mem_cons.mp hx with e | m
      · rw [e, c] at hn; cases hn
      · exact h3 x m hn
    · rw [List.dropWhile_cons_of_neg c] at h
      have e : a = q := by simpa using h
      subst e
      refine ⟨List.mem_cons_self .., by simpa using c, fun x hx _ => ?_⟩
      rcases List.mem_cons.mp hx with e | m
      · exact .inl e
      · exact .inr (hp.1 x m)
section
variable {D D' : List Wd} {p : Wd} {c : Nat} {g : G} {rep : Nat → Wd}
theorem Inv.ed_inner (I : Inv (LC D) g rep) {i d : Nat} (h : i < g.n) : (∃ j, g.ed i d = some j) ↔ Inner D (rep i ++ [d]) := by
  constructor
  · rintro ⟨j, e⟩
    exact ((I.ed i h d j).mp e).2.inner
  · intro i2
    obtain ⟨v, hv⟩ := i2.ext
    obtain ⟨j, hj, e⟩ := (I.lc v).mp hv.1
    exact ⟨j, (I.ed i h d j).mpr ⟨hj, e ▸ hv⟩⟩
theorem Inv.ed_none (I : Inv (LC D) g rep) {i d : Nat} (h : i < g.n) : g.ed i d = none ↔ ¬ Inner D (rep i ++ [d]) := by
  rw [← I.ed_inner h]
  cases e : g.ed i d with
  | none => simp
  | some j => simp
/-- the classes at the end of q's word that lead to old's -/
theorem Inv.red (I : Inv (LC D) g rep) {q old : Nat} (hq : q < g.n) (e : g.ed q c = some old) (x : Nat) : x ∈ redOf g q c old ↔ x < g.n ∧ rep x <:+ rep q ∧ g.ed x c = some old := by
  have eq := ((I.ed q hq c old).mp e).2
  have := mem_tw (p := fun x => decide (g.ed x c = some old)) (R := fun a b => (rep b <:+ rep a ∧ rep b ≠ rep a) ∧ a ∈ chain g q ∧ b ∈ chain g q) (l := chain g q) ?_ ?_ x
  · unfold redOf
    rw [this, I.mem_chain hq, decide_eq_true_eq, and_assoc]
  · exact (I.chain_pw hq).imp_of_mem fun ha hb h => ⟨h, ha, hb⟩
  · rintro a b ⟨⟨h1, _⟩, ha, hb⟩ hp
    obtain ⟨an, as⟩ := (I.mem_chain hq).mp ha
    obtain ⟨bn, bs⟩ := (I.mem_chain hq).mp hb
    have h2 := (I.ed b bn c old).mp (of_decide_eq_true hp)
    exact decide_eq_true ((I.ed a an c old).mpr ⟨h2.1, h2.2.up (suf_app h1) ((suf_app as).trans eq.2.1)⟩)
theorem Inv.pre (I : Inv (LC D) g rep) {s : Nat} (hs : s < g.n) (x : Nat) : x ∈ preOf g s c ↔ x < g.n ∧ rep x <:+ rep s ∧ ¬ Inner D (rep x ++ [c]) := by
  have := mem_tw (p := fun x => decide (g.ed x c = none)) (R := fun a b => (rep b <:+ rep a ∧ rep b ≠ rep a) ∧ a ∈ chain g s ∧ b ∈ chain g s) (l := chain g s) ?_ ?_ x
  · unfold preOf
    rw [this, I.mem_chain hs, decide_eq_true_eq, and_assoc]
    constructor
    · rintro ⟨h1, h2, h3⟩
      exact ⟨h1, h2, (I.ed_none h1).mp h3⟩
    · rintro ⟨h1, h2, h3⟩
      exact ⟨h1, h2, (I.ed_none h1).mpr h3⟩
  · exact (I.chain_pw hs).imp_of_mem fun ha hb h => ⟨h, ha, hb⟩
  · rintro a b ⟨⟨h1, _⟩, ha, hb⟩ hp
    obtain ⟨an, as⟩ := (I.mem_chain hs).mp ha
    obtain ⟨bn, bs⟩ := (I.mem_chain hs).mp hb
    exact decide_eq_true ((I.ed_none an).mpr fun i => (I.ed_none bn).mp (of_decide_eq_true hp) (i.suf (suf_app h1)))
end
end Sam
set_option linter.all false
/-! A letter more: the classes stay right. -/
namespace Sam
theorem lc_more {L L' : Wd → Prop} {n : Nat} {rep : Nat → Wd} {m : Wd} (lc : ∀ w, L w ↔ ∃ i, i < n ∧ rep i = w) (hL : ∀ w, L' w ↔ L w ∨ w = m) (w : Wd) : L' w ↔ ∃ i, i < n + 1 ∧ up1 rep n m i = w := by
  rw [hL, lc]
  constructor
  · rintro (⟨i, h, e⟩ | e)
    · exact ⟨i, by omega, by rw [up1_ne (by omega)]; exact e⟩
    · exact ⟨n, by omega, by rw [up1_same, e]⟩
  · rintro ⟨i, h, e⟩
    by_cases z : i = n
    · rw [z, up1_same] at e
      exact .inr e.symm
    · rw [up1_ne z] at e
      exact .inl ⟨i, by omega, e⟩
theorem inj_more {L : Wd → Prop} {n : Nat} {rep : Nat → Wd} {m : Wd} (lc : ∀ w, L w ↔ ∃ i, i < n ∧ rep i = w) (inj : ∀ i j, i < n → j < n → rep i = rep j → i = j) (nm : ¬ L m) (i j : Nat) (hi : i < n + 1) (hj : j < n + 1)
    (e : up1 rep n m i = up1 rep n m j) : i = j := by
  by_cases zi : i = n
  · by_cases zj : j = n
    · rw [zi, zj]
    · rw [zi, up1_same, up1_ne zj] at e
      exact absurd ((lc m).mpr ⟨j, by omega, e.symm⟩) nm
  · by_cases zj : j = n
    · rw [zj, up1_same, up1_ne zi] at e
      exact absurd ((lc m).mpr ⟨i, by omega, e⟩) nm
    · rw [up1_ne zi, up1_ne zj] at e
      exact inj i j (by omega) (by omega) e
/-- what a step gives: the new classes, the class of the longer beginning -/
def Step (D' : List Wd) (g : G) (rep : Nat → Wd) (w : Wd) (r : G × Nat) : Prop :=
  ∃ rep' : Nat → Wd, Inv (LC D') r.1 rep' ∧ r.2 < r.1.n ∧ rep' r.2 = w ∧ g.n ≤ r.1.n ∧ ∀ i, i < g.n → rep' i = rep i
section
variable {D D' : List Wd} {p : Wd} {c : Nat} {g : G} {rep : Nat → Wd}
theorem step_old (I : Inv (LC D) g rep) (Gr : Grow D D' p c) {s : Nat} (hs : s < g.n) (es : rep s = p) (i0 : Inner D (p ++ [c])) : Step D' g rep (p ++ [c]) (ledTo g s c) := by
  obtain ⟨old, eo⟩ := (I.ed_inner (i := s) (d := c) hs).mpr (es ▸ i0)
  obtain ⟨ho, hm⟩ := (I.ed s hs c old).mp eo
  rw [es] at hm
  have hL := Gr.lc_old i0
  unfold ledTo
  rw [eo]
  show Step D' g rep (p ++ [c]) (if g.sz old = g.sz s + 1 then _ else _)
  have so := I.sz old ho
  have ss := I.sz s hs
  rw [es] at ss
  by_cases l : LC D (p ++ [c])
  · have e := hm.of_mem l
    rw [if_pos (by rw [so, ss, e]; simp)]
    have eL : LC D' = LC D := funext fun w => propext ((hL w).trans ⟨fun h => h.elim id fun z => z ▸ l, .inl⟩)
    exact ⟨rep, by rw [eL]; exact I, ho, e, Nat.le_refl _, fun _ _ => rfl⟩
  · have vm := split_ne hm l hL
    rw [if_neg (fun z => vm (by
      have := hm.2.1.eq_of_length (by rw [so, ss] at z; simp; omega)
      exact this.symm))]
    refine ⟨up1 rep g.n (p ++ [c]), ⟨Nat.succ_pos _, ?_, inj_more I.lc I.inj l, lc_more I.lc hL, ?_, ?_, ?_⟩, Nat.lt_succ_self _, up1_same, Nat.le_succ _, fun i h => up1_ne (by omega)⟩
    · have := I.n0
      rw [up1_ne (by omega)]
      exact I.r0
    · intro i hi
      have hi2 : i < g.n + 1 := hi
      show up1 g.sz g.n (g.sz s + 1) i = _
      by_cases z : i = g.n
      · rw [z, up1_same, up1_same, ss]
        simp
      · rw [up1_ne z, up1_ne z]
        exact I.sz i (by omega)
    · intro i hi d j
      have hi2 : i < g.n + 1 := hi
      show (if d = c ∧ i ∈ redOf g s c old then some g.n else up1 g.ed g.n (g.ed old) i d) = some j ↔ j < g.n + 1 ∧ _
      by_cases z : i = g.n
      · rw [if_neg (fun q => by have := ((I.red hs eo i).mp q.2).1; omega), z, up1_same, up1_same, I.ed old ho d j, ← ext_app hm]
        constructor
        · rintro ⟨hj, e⟩
          refine ⟨by omega, ?_⟩
          rw [up1_ne (by omega)]
          refine (split_ext_old hm l hL fun q => l (q ▸ I.mem hj)).mpr ⟨e, fun q => ?_⟩
          have := q.1.length_le
          simp at this
        · rintro ⟨hj, e⟩
          by_cases zj : j = g.n
          · rw [zj, up1_same] at e
            have := e.2.1.length_le
            simp at this
          · rw [up1_ne zj] at e
            exact ⟨by omega, ((split_ext_old hm l hL fun q => l (q ▸ I.mem (by omega))).mp e).1⟩
      · have hi3 : i < g.n := by omega
        rw [up1_ne z, up1_ne z]
        have key : (d = c ∧ i ∈ redOf g s c old) ↔ (rep i ++ [d]) <:+ (p ++ [c]) ∧ Ext (LC D) (rep i ++ [d]) (rep old) := by
          rw [I.red hs eo i, es]
          constructor
          · rintro ⟨rfl, _, q, e⟩
            exact ⟨suf_app q, ((I.ed i hi3 _ old).mp e).2⟩
          · rintro ⟨q, e⟩
            obtain ⟨rfl, q2⟩ := suf_snoc q
            exact ⟨rfl, hi3, q2, (I.ed i hi3 _ old).mpr ⟨ho, e⟩⟩
        by_cases zj : j = g.n
        · rw [zj, up1_same, split_ext_new hm l hL, ← key]
          by_cases q : d = c ∧ i ∈ redOf g s c old
          · rw [if_pos q]
            exact ⟨fun _ => ⟨by omega, q⟩, fun _ => rfl⟩
          · rw [if_neg q]
            exact ⟨fun e => absurd ((I.ed i hi3 d _).mp e).1 (by omega), fun e => absurd e.2 q⟩
        · rw [up1_ne zj]
          by_cases hj : j < g.n
          · rw [split_ext_old hm l hL fun q => l (q ▸ I.mem hj)]
            have inj : rep j = rep old ↔ j = old := ⟨I.inj j old hj ho, fun e => e ▸ rfl⟩
            by_cases q : d = c ∧ i ∈ redOf g s c old
            · rw [if_pos q]
              have q2 := key.mp q
              refine ⟨fun e => absurd (Option.some.inj e).symm zj, fun e => absurd ⟨q2.1, ?_⟩ e.2.2⟩
              exact e.2.1.uniq q2.2
            · rw [if_neg q, I.ed i hi3 d j]
              refine ⟨fun e => ⟨by omega, e.2, fun q2 => q (key.mpr ⟨q2.1, q2.2 ▸ e.2⟩)⟩, fun e => ⟨hj, e.2.1⟩⟩
          · refine ⟨fun e => ?_, fun e => absurd e.1 (by omega)⟩
            by_cases q : d = c ∧ i ∈ redOf g s c old
            · rw [if_pos q] at e
              exact absurd (Option.some.inj e).symm zj
            · rw [if_neg q] at e
              exact absurd ((I.ed i hi3 d _).mp e).1 hj
    · intro i hi j
      have hi2 : i < g.n + 1 := hi
      show up1 (up1 g.lk g.n (g.lk old)) old (some g.n) i = some j ↔ j < g.n + 1 ∧ _
      have hne : old ≠ g.n := by omega
      by_cases z : i = old
      · rw [z, up1_same, up1_ne hne]
        rw [split_link_v hm l hL]
        constructor
        · intro e
          have e2 := (Option.some.inj e)
          rw [← e2, up1_same]
          exact ⟨by omega, rfl⟩
        · rintro ⟨hj, e⟩
          by_cases zj : j = g.n
          · rw [zj]
          · rw [up1_ne zj] at e
            exact absurd (e ▸ I.mem (by omega)) l
      · rw [up1_ne z]
        by_cases zi : i = g.n
        · rw [zi, up1_same, up1_same, split_link_new hm l hL, I.lk old ho j]
          constructor
          · rintro ⟨hj, e⟩
            exact ⟨by omega, by rw [up1_ne (by omega)]; exact e⟩
          · rintro ⟨hj, e⟩
            by_cases zj : j = g.n
            · rw [zj, up1_same] at e
              exact absurd e.1 l
            · rw [up1_ne zj] at e
              exact ⟨by omega, e⟩
        · have hi3 : i < g.n := by omega
          rw [up1_ne zi, up1_ne zi, split_link_old hm l hL (I.mem hi3) (fun e => z (I.inj i old hi3 ho e)), I.lk i hi3 j]
          constructor
          · rintro ⟨hj, e⟩
            exact ⟨by omega, by rw [up1_ne (by omega)]; exact e⟩
          · rintro ⟨hj, e⟩
            by_cases zj : j = g.n
            · rw [zj, up1_same] at e
              exact absurd e.1 l
            · rw [up1_ne zj] at e
              exact ⟨by omega, e⟩
/-- the letter's class is new, and linked to a class that stands -/
theorem step_fresh (I : Inv (LC D) g rep) (Gr : Grow D D' p c) {s r : Nat} (hs : s < g.n) (es : rep s = p) (np : ¬ Inner D (p ++ [c])) (hr : r < g.n) (hL : ∀ w, LC D' w ↔ LC D w ∨ w = p ++ [c]) (sr : rep r <:+ p ++ [c])
    (mx : ∀ u, u <:+ p → Inner D (u ++ [c]) → u ++ [c] <:+ rep r) (lk : Nat → Option Nat) (l1 : lk g.n = some r) (l2 : ∀ i, i < g.n → lk i = g.lk i) :
    Step D' g rep (p ++ [c]) (⟨g.n + 1, (setEd (addG g (g.sz s + 1) (fun _ => none) (some 0)) c g.n (preOf g s c)).ed, up1 g.sz g.n (g.sz s + 1), lk⟩, g.n) := by
  have nf : ∀ w, LC D w → ¬ p ++ [c] <:+ w := fun w lw h => np (lw.inner.suf h)
  have nl : ¬ LC D (p ++ [c]) := fun l => np l.inner
  have ss := I.sz s hs
  rw [es] at ss
  refine ⟨up1 rep g.n (p ++ [c]), ⟨Nat.succ_pos _, ?_, inj_more I.lc I.inj nl, lc_more I.lc hL, ?_, ?_, ?_⟩, Nat.lt_succ_self _, up1_same, Nat.le_succ _, fun i h => up1_ne (by omega)⟩
  · have := I.n0
    rw [up1_ne (by omega)]
    exact I.r0
  · intro i hi
    have hi2 : i < g.n + 1 := hi
    show up1 g.sz g.n (g.sz s + 1) i = _
    by_cases z : i = g.n
    · rw [z, up1_same, up1_same, ss]
      simp
    · rw [up1_ne z, up1_ne z]
      exact I.sz i (by omega)
  · intro i hi d j
    have hi2 : i < g.n + 1 := hi
    show (if d = c ∧ i ∈ preOf g s c then some g.n else up1 g.ed g.n (fun _ => none) i d) = some j ↔ j < g.n + 1 ∧ _
    by_cases z : i = g.n
    · rw [if_neg (fun q => by have := ((I.pre hs i).mp q.2).1; omega), z, up1_same, up1_same]
      refine ⟨(fun e => by cases e), fun ⟨hj, e⟩ => ?_⟩
      by_cases zj : j = g.n
      · rw [zj, up1_same] at e
        have := e.2.1.length_le
        simp at this
      · rw [up1_ne zj] at e
        have hj2 : j < g.n := by omega
        have := ((fresh_ext_old nf hL fun q => nl (q ▸ I.mem hj2)).mp e).inner
        exact absurd this.left np
    · have hi3 : i < g.n := by omega
      rw [up1_ne z, up1_ne z]
      have key : (d = c ∧ i ∈ preOf g s c) ↔ (rep i ++ [d]) <:+ (p ++ [c]) ∧ ∀ w, LC D w → rep i ++ [d] <:+ w → ¬ w <:+ p ++ [c] := by
        rw [I.pre hs i, es]
        constructor
        · rintro ⟨rfl, _, q, e⟩
          exact ⟨suf_app q, fun w lw h _ => e (lw.inner.suf h)⟩
        · rintro ⟨q, e⟩
          obtain ⟨rfl, q2⟩ := suf_snoc q
          exact ⟨rfl, hi3, q2, fun h => e _ (I.mem hr) (mx _ q2 h) sr⟩
      by_cases zj : j = g.n
      · rw [zj, up1_same, fresh_ext_new nf hL, ← key]
        by_cases q : d = c ∧ i ∈ preOf g s c
        · rw [if_pos q]
          exact ⟨fun _ => ⟨by omega, q⟩, fun _ => rfl⟩
        · rw [if_neg q]
          exact ⟨fun e => absurd ((I.ed i hi3 d _).mp e).1 (by omega), fun e => absurd e.2 q⟩
      · rw [up1_ne zj]
        by_cases hj : j < g.n
        · rw [fresh_ext_old nf hL fun q => nl (q ▸ I.mem hj)]
          by_cases q : d = c ∧ i ∈ preOf g s c
          · rw [if_pos q]
            refine ⟨fun e => absurd (Option.some.inj e).symm zj, fun e => ?_⟩
            have := ((I.pre hs i).mp q.2).2.2
            exact absurd (q.1 ▸ e.2.inner) this
          · rw [if_neg q, I.ed i hi3 d j]
            exact ⟨fun e => ⟨by omega, e.2⟩, fun e => ⟨hj, e.2⟩⟩
        · refine ⟨fun e => ?_, fun e => absurd e.1 (by omega)⟩
          by_cases q : d = c ∧ i ∈ preOf g s c
          · rw [if_pos q] at e
            exact absurd (Option.some.inj e).symm zj
          · rw [if_neg q] at e
            exact absurd ((I.ed i hi3 d _).mp e).1 hj
  · intro i hi j
    have hi2 : i < g.n + 1 := hi
    show lk i = some j ↔ j < g.n + 1 ∧ _
    by_cases z : i = g.n
    · have key : Link (LC D') (p ++ [c]) (rep r) := by
        refine (fresh_link_new nf hL).mpr ⟨I.mem hr, sr, fun x lx h => ?_⟩
        rcases suf_snoc_cases h with e | ⟨u, e, q⟩
        · exact e ▸ List.nil_suffix
        · exact e ▸ mx u q (e ▸ lx.inner)
      rw [z, l1, up1_same]
      constructor
      · intro e
        have e2 := Option.some.inj e
        rw [← e2, up1_ne (by omega)]
        exact ⟨by omega, key⟩
      · rintro ⟨hj, e⟩
        have e2 := key.uniq e
        by_cases zj : j = g.n
        · rw [zj, up1_same] at e2
          exact absurd (e2 ▸ I.mem hr) nl
        · rw [up1_ne zj] at e2
          rw [I.inj r j hr (by omega) e2]
    · have hi3 : i < g.n := by omega
      rw [l2 i hi3, up1_ne z, fresh_link_old nf hL (I.mem hi3), I.lk i hi3 j]
      constructor
      · rintro ⟨hj, e⟩
        exact ⟨by omega, by rw [up1_ne (by omega)]; exact e⟩
      · rintro ⟨hj, e⟩
        by_cases zj : j = g.n
        · rw [zj, up1_same] at e
          exact absurd e.1 nl
        · rw [up1_ne zj] at e
          exact ⟨by omega, e⟩
end
end Sam
set_option linter.all false
namespace Sam
theorem tw_congr {α : Type} {p q : α → Bool} : ∀ {l : List α}, (∀ x ∈ l, p x = q x) → l.takeWhile p = l.takeWhile q
  | [], _ => rfl
  | a :: l, h => by
    have h1 := h a (List.mem_cons_self ..)
    have h2 := tw_congr (l := l) fun x m => h x (List.mem_cons_of_mem _ m)
    simp only [List.takeWhile, h1, h2]
section
variable {D D' : List Wd} {p : Wd} {c : Nat} {g : G} {rep : Nat → Wd}
theorem Inv.chn_congr {L : Wd → Prop} (I : Inv L g rep) {lk : Nat → Option Nat} (h : ∀ i, i < g.n → lk i = g.lk i) : ∀ (k : Nat) {s : Nat}, s < g.n → chn lk k s = chn g.lk k s
  | 0, _, _ => rfl
  | k + 1, s, hs => by
    rw [chn, chn, h s hs]
    cases e : g.lk s with
    | none => rfl
    | some t => show s :: chn lk k t = s :: chn g.lk k t; rw [Inv.chn_congr I h k (I.dec hs e).1]
/-- the letter's class is new, and a class is split -/
theorem step_both (I : Inv (LC D) g rep) (Gr : Grow D D' p c) {s q old : Nat} (hs : s < g.n) (es : rep s = p) (np : ¬ Inner D (p ++ [c])) (hq : q < g.n) (sq : rep q <:+ p) (eo : g.ed q c = some old) (nl : ¬ LC D (rep q ++ [c]))
    (mx : ∀ u, u <:+ p → Inner D (u ++ [c]) → u <:+ rep q) (ed : Nat → Nat → Option Nat) (lk : Nat → Option Nat)
    (e1 : ∀ i, i < g.n → ∀ d, ed i d = if d = c ∧ i ∈ redOf g q c old then some (g.n + 1) else if d = c ∧ i ∈ preOf g s c then some g.n else g.ed i d)
    (e2 : ∀ d, ed g.n d = none) (e3 : ∀ d, ed (g.n + 1) d = if d = c ∧ old ∈ preOf g s c then some g.n else g.ed old d)
    (k1 : ∀ i, i < g.n → lk i = if i = old then some (g.n + 1) else g.lk i) (k2 : lk g.n = some (g.n + 1)) (k3 : lk (g.n + 1) = g.lk old) :
    Step D' g rep (p ++ [c]) (⟨g.n + 1 + 1, ed, up1 (up1 g.sz g.n (g.sz s + 1)) (g.n + 1) (g.sz q + 1), lk⟩, g.n) := by
  obtain ⟨ho, hm⟩ := (I.ed q hq c old).mp eo
  have iq := hm.inner
  have nf0 : ∀ w, LC D w → ¬ p ++ [c] <:+ w := fun w lw h => np (lw.inner.suf h)
  have nlf : ¬ LC D (p ++ [c]) := fun l => np l.inner
  have mf : rep q ++ [c] ≠ p ++ [c] := fun e => np (e ▸ iq)
  have sm : rep q ++ [c] <:+ p ++ [c] := suf_app sq
  have hL := Gr.lc_some np sq iq mx
  have hL1 : ∀ w, (fun w => LC D w ∨ w = rep q ++ [c]) w ↔ LC D w ∨ w = rep q ++ [c] := fun w => Iff.rfl
  have nf : ∀ w, (fun w => LC D w ∨ w = rep q ++ [c]) w → ¬ p ++ [c] <:+ w := by
    rintro w (lw | e) h
    · exact nf0 w lw h
    · exact np (iq.suf (e ▸ h))
  have hL2 : ∀ w, LC D' w ↔ (fun w => LC D w ∨ w = rep q ++ [c]) w ∨ w = p ++ [c] := hL
  have ss := I.sz s hs
  rw [es] at ss
  have sz_q := I.sz q hq
  -- the new words' edges and links
  have Em : ∀ u, Ext (LC D') u (rep q ++ [c]) ↔ u <:+ rep q ++ [c] ∧ Ext (LC D) u (rep old) := fun u => (fresh_ext_old nf hL2 mf).trans (split_ext_new hm nl hL1)
  have Ez : ∀ u z, LC D z → (Ext (LC D') u z ↔ Ext (LC D) u z ∧ ¬ (u <:+ rep q ++ [c] ∧ z = rep old)) := fun u z lz =>
    (fresh_ext_old nf hL2 fun e => nlf (e ▸ lz)).trans (split_ext_old hm nl hL1 fun e => nl (e ▸ lz))
  have Ef : ∀ u, Ext (LC D') u (p ++ [c]) ↔ u <:+ p ++ [c] ∧ ∀ w, (LC D w ∨ w = rep q ++ [c]) → u <:+ w → ¬ w <:+ p ++ [c] := fun u => fresh_ext_new nf hL2
  have lc2 : ∀ w, (fun w => LC D w ∨ w = p ++ [c]) w ↔ ∃ i, i < g.n + 1 ∧ up1 rep g.n (p ++ [c]) i = w := lc_more I.lc (fun w => Iff.rfl)
  have inj2 := inj_more I.lc I.inj nlf
  have nl2 : ¬ (fun w => LC D w ∨ w = p ++ [c]) (rep q ++ [c]) := fun h => h.elim nl mf
  have R0 : ∀ i, i < g.n → up1 (up1 rep g.n (p ++ [c])) (g.n + 1) (rep q ++ [c]) i = rep i := fun i h => by rw [up1_ne (by omega), up1_ne (by omega)]
  have Rn : up1 (up1 rep g.n (p ++ [c])) (g.n + 1) (rep q ++ [c]) g.n = p ++ [c] := by rw [up1_ne (by omega), up1_same]
  have Rm : up1 (up1 rep g.n (p ++ [c])) (g.n + 1) (rep q ++ [c]) (g.n + 1) = rep q ++ [c] := up1_same
  refine ⟨up1 (up1 rep g.n (p ++ [c])) (g.n + 1) (rep q ++ [c]), ⟨Nat.succ_pos _, ?_, inj_more lc2 inj2 nl2, lc_more lc2 (fun w => ?_), ?_, ?_, ?_⟩, (by show g.n < g.n + 1 + 1; omega), Rn, (by show g.n ≤ g.n + 1 + 1; omega), R0⟩
  · rw [R0 0 I.n0]
    exact I.r0
  · rw [hL w]
    constructor
    · rintro ((h | h) | h)
      · exact .inl (.inl h)
      · exact .inr h
      · exact .inl (.inr h)
    · rintro ((h | h) | h)
      · exact .inl (.inl h)
      · exact .inr h
      · exact .inl (.inr h)
  · intro i hi
    have hi2 : i < g.n + 1 + 1 := hi
    show up1 (up1 g.sz g.n (g.sz s + 1)) (g.n + 1) (g.sz q + 1) i = _
    by_cases z : i = g.n + 1
    · rw [z, up1_same, up1_same, sz_q]
      simp
    · rw [up1_ne z, up1_ne z]
      by_cases z2 : i = g.n
      · rw [z2, up1_same, up1_same, ss]
        simp
      · rw [up1_ne z2, up1_ne z2]
        exact I.sz i (by omega)
  · intro i hi d j
    have hi2 : i < g.n + 1 + 1 := hi
    show ed i d = some j ↔ j < g.n + 1 + 1 ∧ _
    by_cases z : i = g.n + 1
    · -- the class that was split off
      rw [z, e3, Rm]
      have key : (d = c ∧ old ∈ preOf g s c) ↔ (rep q ++ [c] ++ [d]) <:+ p ++ [c] := by
        rw [I.pre hs old, es]
        constructor
        · rintro ⟨rfl, _, h, _⟩
          exact suf_app (hm.2.1.trans h)
        · intro h
          obtain ⟨rfl, h2⟩ := suf_snoc h
          have h3 : rep old <:+ p := by
            obtain ⟨t, mt, y, e⟩ := Gr.hp
            obtain ⟨x, ex⟩ := h2
            obtain ⟨x', ex'⟩ := hm.occ mt (x := x) (y := y) (by rw [e, ← ex])
            exact ⟨x', (List.append_inj' (ex'.symm.trans e) rfl).1⟩
          refine ⟨rfl, ho, h3, fun i2 => ?_⟩
          have := (mx _ h2 (hm.inner_app.mpr i2)).length_le
          simp at this
          omega
      by_cases zm : j = g.n + 1
      · rw [zm, Rm, Em]
        refine ⟨fun e => ?_, fun e => ?_⟩
        · by_cases k : d = c ∧ old ∈ preOf g s c
          · rw [if_pos k] at e
            have := Option.some.inj e
            omega
          · rw [if_neg k] at e
            have := ((I.ed old ho d _).mp e).1
            omega
        · have := e.2.1.length_le
          simp at this
      · by_cases zn : j = g.n
        · rw [zn, Rn, Ef]
          constructor
          · intro e
            by_cases k : d = c ∧ old ∈ preOf g s c
            · refine ⟨by omega, key.mp k, fun w lw h1 h2 => ?_⟩
              have iw : Inner D w := lw.elim LC.inner fun e => e ▸ iq
              have h3 := key.mp k
              rw [k.1] at h1 h3
              have := (mx _ (suf_snoc h3).2 (iw.suf h1)).length_le
              simp at this
              omega
            · rw [if_neg k] at e
              have := ((I.ed old ho d _).mp e).1
              omega
          · rintro ⟨_, h, _⟩
            rw [if_pos (key.mpr h)]
        · by_cases hj : j < g.n
          · rw [R0 j hj, Ez _ _ (I.mem hj)]
            by_cases k : d = c ∧ old ∈ preOf g s c
            · rw [if_pos k]
              refine ⟨fun e => absurd (Option.some.inj e).symm zn, fun e => ?_⟩
              have i2 := hm.inner_app.mp e.2.1.inner
              have := ((I.pre hs old).mp k.2).2.2
              exact absurd (k.1 ▸ i2) this
            · rw [if_neg k, I.ed old ho d j, ← ext_app hm]
              refine ⟨fun e => ⟨by omega, e.2, fun h => ?_⟩, fun e => ⟨hj, e.2.1⟩⟩
              have := h.1.length_le
              simp at this
          · refine ⟨fun e => ?_, fun e => absurd e.1 (by omega)⟩
            by_cases k : d = c ∧ old ∈ preOf g s c
            · rw [if_pos k] at e
              exact absurd (Option.some.inj e).symm zn
            · rw [if_neg k] at e
              exact absurd ((I.ed old ho d _).mp e).1 hj
    · by_cases zi : i = g.n
      · -- the letter's class
        rw [zi, e2, Rn]
        refine ⟨(fun e => by cases e), fun ⟨hj, e⟩ => ?_⟩
        have bad : ¬ Inner D (p ++ [c] ++ [d]) := fun h => np h.left
        by_cases zm : j = g.n + 1
        · rw [zm, Rm, Em] at e
          exact absurd e.2.inner bad
        · by_cases zn : j = g.n
          · rw [zn, Rn] at e
            have := e.2.1.length_le
            simp at this
          · have hj2 : j < g.n := by omega
            rw [R0 j hj2, Ez _ _ (I.mem hj2)] at e
            exact absurd e.1.inner bad
      · -- a class that was there
        have hi3 : i < g.n := by omega
        rw [e1 i hi3, R0 i hi3]
        have kr : (d = c ∧ i ∈ redOf g q c old) ↔ (rep i ++ [d]) <:+ (rep q ++ [c]) ∧ Ext (LC D) (rep i ++ [d]) (rep old) := by
          rw [I.red hq eo i]
          constructor
          · rintro ⟨rfl, _, q, e⟩
            exact ⟨suf_app q, ((I.ed i hi3 _ old).mp e).2⟩
          · rintro ⟨q, e⟩
            obtain ⟨rfl, q2⟩ := suf_snoc q
            exact ⟨rfl, hi3, q2, (I.ed i hi3 _ old).mpr ⟨ho, e⟩⟩
        have kp : (d = c ∧ i ∈ preOf g s c) ↔ (rep i ++ [d]) <:+ (p ++ [c]) ∧ ∀ w, (LC D w ∨ w = rep q ++ [c]) → rep i ++ [d] <:+ w → ¬ w <:+ p ++ [c] := by
          rw [I.pre hs i, es]
          constructor
          · rintro ⟨rfl, _, q, e⟩
            exact ⟨suf_app q, fun w lw h _ => e ((lw.elim LC.inner fun e => e ▸ iq).suf h)⟩
          · rintro ⟨q, e⟩
            obtain ⟨rfl, q2⟩ := suf_snoc q
            exact ⟨rfl, hi3, q2, fun h => e _ (.inr rfl) (suf_app (mx _ q2 h)) sm⟩
        have dis : d = c ∧ i ∈ redOf g q c old → ¬ (d = c ∧ i ∈ preOf g s c) := fun a b => by
          have h1 := ((I.pre hs i).mp b.2).2.2
          have h2 := ((I.red hq eo i).mp a.2).2.2
          exact h1 ((I.ed_inner hi3).mp ⟨_, h2⟩)
        by_cases zm : j = g.n + 1
        · rw [zm, Rm, Em, ← kr]
          by_cases k : d = c ∧ i ∈ redOf g q c old
          · rw [if_pos k]
            exact ⟨fun _ => ⟨by omega, k⟩, fun _ => rfl⟩
          · rw [if_neg k]
            refine ⟨fun e => ?_, fun e => absurd e.2 k⟩
            by_cases k2 : d = c ∧ i ∈ preOf g s c
            · rw [if_pos k2] at e
              have := Option.some.inj e
              omega
            · rw [if_neg k2] at e
              have := ((I.ed i hi3 d _).mp e).1
              omega
        · by_cases zn : j = g.n
          · rw [zn, Rn, Ef, ← kp]
            by_cases k : d = c ∧ i ∈ redOf g q c old
            · rw [if_pos k]
              exact ⟨fun e => by have := Option.some.inj e; omega, fun e => absurd e.2 (dis k)⟩
            · rw [if_neg k]
              by_cases k2 : d = c ∧ i ∈ preOf g s c
              · rw [if_pos k2]
                exact ⟨fun _ => ⟨by omega, k2⟩, fun _ => rfl⟩
              · rw [if_neg k2]
                exact ⟨fun e => by have := ((I.ed i hi3 d _).mp e).1; omega, fun e => absurd e.2 k2⟩
          · by_cases hj : j < g.n
            · rw [R0 j hj, Ez _ _ (I.mem hj)]
              by_cases k : d = c ∧ i ∈ redOf g q c old
              · rw [if_pos k]
                have k3 := kr.mp k
                refine ⟨fun e => absurd (Option.some.inj e).symm zm, fun e => absurd ⟨k3.1, ?_⟩ e.2.2⟩
                exact e.2.1.uniq k3.2
              · rw [if_neg k]
                by_cases k2 : d = c ∧ i ∈ preOf g s c
                · rw [if_pos k2]
                  refine ⟨fun e => absurd (Option.some.inj e).symm zn, fun e => ?_⟩
                  have := ((I.pre hs i).mp k2.2).2.2
                  exact absurd (k2.1 ▸ e.2.1.inner) this
                · rw [if_neg k2, I.ed i hi3 d j]
                  exact ⟨fun e => ⟨by omega, e.2, fun h => k (kr.mpr ⟨h.1, h.2 ▸ e.2⟩)⟩, fun e => ⟨hj, e.2.1⟩⟩
            · refine ⟨fun e => ?_, fun e => absurd e.1 (by omega)⟩
              by_cases k : d = c ∧ i ∈ redOf g q c old
              · rw [if_pos k] at e
                exact absurd (Option.some.inj e).symm zm
              · rw [if_neg k] at e
                by_cases k2 : d = c ∧ i ∈ preOf g s c
                · rw [if_pos k2] at e
                  exact absurd (Option.some.inj e).symm zn
                · rw [if_neg k2] at e
                  exact absurd ((I.ed i hi3 d _).mp e).1 hj
  · intro i hi j
    have hi2 : i < g.n + 1 + 1 := hi
    show lk i = some j ↔ j < g.n + 1 + 1 ∧ _
    have Kf : Link (LC D') (p ++ [c]) (rep q ++ [c]) := by
      refine (fresh_link_new nf hL2).mpr ⟨.inr rfl, sm, fun x lx h => ?_⟩
      rcases suf_snoc_cases h with e | ⟨u, e, k⟩
      · exact e ▸ List.nil_suffix
      · have ix : Inner D x := lx.elim LC.inner fun e => e ▸ iq
        exact e ▸ suf_app (mx u k (e ▸ ix))
    have Kz : ∀ {z w}, (LC D z ∨ z = rep q ++ [c]) → (Link (LC D') z w ↔ Link (fun w => LC D w ∨ w = rep q ++ [c]) z w) := fun lz => fresh_link_old nf hL2 lz
    -- a link to an old word, told by old links
    have fin : ∀ {z : Wd}, (∀ w, Link (LC D') z w ↔ Link (LC D) z w) → ∀ {i0 : Nat}, i0 < g.n → rep i0 = z → (g.lk i0 = some j ↔ j < g.n + 1 + 1 ∧ Link (LC D') z (up1 (up1 rep g.n (p ++ [c])) (g.n + 1) (rep q ++ [c]) j)) := by
      intro z hz i0 h0 e0
      rw [I.lk i0 h0 j, hz, e0]
      constructor
      · rintro ⟨hj, e⟩
        exact ⟨by omega, by rw [R0 j hj]; exact e⟩
      · rintro ⟨hj, e⟩
        by_cases zm : j = g.n + 1
        · rw [zm, Rm] at e
          exact absurd e.1 nl
        · by_cases zn : j = g.n
          · rw [zn, Rn] at e
            exact absurd e.1 nlf
          · have hj2 : j < g.n := by omega
            rw [R0 j hj2] at e
            exact ⟨hj2, e⟩
    -- a link to the word that was split off
    have fm : ∀ {z : Wd}, Link (LC D') z (rep q ++ [c]) → (some (g.n + 1) = some j ↔ j < g.n + 1 + 1 ∧ Link (LC D') z (up1 (up1 rep g.n (p ++ [c])) (g.n + 1) (rep q ++ [c]) j)) := by
      intro z hz
      constructor
      · intro e
        have e2 := Option.some.inj e
        rw [← e2, Rm]
        exact ⟨by omega, hz⟩
      · rintro ⟨hj, e⟩
        have e2 := hz.uniq e
        by_cases zm : j = g.n + 1
        · rw [zm]
        · by_cases zn : j = g.n
          · rw [zn, Rn] at e2
            exact absurd e2 mf
          · have hj2 : j < g.n := by omega
            rw [R0 j hj2] at e2
            exact absurd (e2 ▸ I.mem hj2) nl
    by_cases z : i = g.n + 1
    · rw [z, k3, Rm]
      have : ∀ w, Link (LC D') (rep q ++ [c]) w ↔ Link (LC D) (rep old) w := fun w => (Kz (.inr rfl)).trans (split_link_new hm nl hL1)
      rw [I.lk old ho j, this]
      constructor
      · rintro ⟨hj, e⟩
        exact ⟨by omega, by rw [R0 j hj]; exact e⟩
      · rintro ⟨hj, e⟩
        by_cases zm : j = g.n + 1
        · rw [zm, Rm] at e
          exact absurd e.1 nl
        · by_cases zn : j = g.n
          · rw [zn, Rn] at e
            exact absurd e.1 nlf
          · have hj2 : j < g.n := by omega
            rw [R0 j hj2] at e
            exact ⟨hj2, e⟩
    · by_cases zi : i = g.n
      · rw [zi, k2, Rn]
        exact fm Kf
      · have hi3 : i < g.n := by omega
        rw [k1 i hi3, R0 i hi3]
        by_cases zo : i = old
        · rw [if_pos zo, zo]
          exact fm ((Kz (.inl (I.mem ho))).mpr ((split_link_v hm nl hL1).mpr rfl))
        · rw [if_neg zo]
          exact fin (fun w => (Kz (.inl (I.mem hi3))).trans (split_link_old hm nl hL1 (I.mem hi3) fun e => zo (I.inj i old hi3 ho e))) hi3 rfl
/-- a letter more -/
theorem after_ok (I : Inv (LC D) g rep) (Gr : Grow D D' p c) {s : Nat} (hs : s < g.n) (es : rep s = p) : Step D' g rep (p ++ [c]) (after g s c) := by
  unfold after
  cases e : g.ed s c with
  | some old => exact step_old I Gr hs es (es ▸ (I.ed_inner hs).mp ⟨old, e⟩)
  | none =>
    have np : ¬ Inner D (p ++ [c]) := es ▸ (I.ed_none hs).mp e
    have pw : (chain g s).Pairwise (fun a b => rep b <:+ rep a ∧ rep b ≠ rep a) := I.chain_pw hs
    show Step D' g rep (p ++ [c]) (match nextOf g s c with | none => _ | some q => _)
    cases en : nextOf g s c with
    | none =>
      have no : ∀ u, u <:+ p → ¬ Inner D (u ++ [c]) := fun u su iu => by
        obtain ⟨q, l, s1, s2, i2⟩ := Gr.up _ (Nat.le_refl _) su iu
        obtain ⟨j, hj, ej⟩ := (I.lc q).mp l
        have := dw_none en j ((I.mem_chain hs).mpr ⟨hj, by rw [ej, es]; exact s2⟩)
        exact (I.ed_none hj).mp (of_decide_eq_true this) (ej ▸ i2)
      exact step_fresh I Gr hs es np I.n0 (Gr.lc_none no) (by rw [I.r0]; exact List.nil_suffix) (fun u su iu => absurd iu (no u su)) _ up1_same (fun i h => up1_ne (by omega))
    | some q =>
      obtain ⟨cq, nq, mq⟩ := dw_some pw en
      obtain ⟨hq, sq⟩ := (I.mem_chain hs).mp cq
      rw [es] at sq
      have nq2 : g.ed q c ≠ none := of_decide_eq_false nq
      obtain ⟨old, eo⟩ := Option.ne_none_iff_exists'.mp nq2
      obtain ⟨ho, hm⟩ := (I.ed q hq c old).mp eo
      have mx : ∀ u, u <:+ p → Inner D (u ++ [c]) → u <:+ rep q := fun u su iu => by
        obtain ⟨q', l, s1, s2, i2⟩ := Gr.up _ (Nat.le_refl _) su iu
        obtain ⟨j, hj, ej⟩ := (I.lc q').mp l
        have cj := (I.mem_chain hs).mpr ⟨hj, by rw [ej, es]; exact s2⟩
        have nj : g.ed j c ≠ none := fun z => (I.ed_none hj).mp z (ej ▸ i2)
        rcases mq j cj (decide_eq_false nj) with e | ⟨h, _⟩
        · rw [← e, ej]; exact s1
        · exact s1.trans (ej ▸ h)
      have qp : q ∉ preOf g s c := fun z => ((I.pre hs q).mp z).2.2 hm.inner
      have qn : q ≠ g.n := by omega
      have on : old ≠ g.n := by omega
      show Step D' g rep (p ++ [c]) (setLk (ledTo (setEd (addG g (g.sz s + 1) (fun _ => none) (some 0)) c g.n (preOf g s c)) q c).1 g.n (some (ledTo (setEd (addG g (g.sz s + 1) (fun _ => none) (some 0)) c g.n (preOf g s c)) q c).2), g.n)
      have g2e : (setEd (addG g (g.sz s + 1) (fun _ => none) (some 0)) c g.n (preOf g s c)).ed q c = some old := by
        show (if c = c ∧ q ∈ preOf g s c then _ else up1 g.ed g.n (fun _ => none) q c) = _
        rw [if_neg (fun z => qp z.2), up1_ne qn, eo]
      have z1 : (setEd (addG g (g.sz s + 1) (fun _ => none) (some 0)) c g.n (preOf g s c)).sz old = g.sz old := up1_ne on
      have z2 : (setEd (addG g (g.sz s + 1) (fun _ => none) (some 0)) c g.n (preOf g s c)).sz q = g.sz q := up1_ne qn
      unfold ledTo
      rw [g2e]
      show Step D' g rep (p ++ [c]) (setLk (if _ then _ else _ : G × Nat).1 g.n (some (if _ then _ else _ : G × Nat).2), g.n)
      rw [z1, z2]
      have hz : g.sz old = g.sz q + 1 ↔ LC D (rep q ++ [c]) := by
        rw [I.sz old ho, I.sz q hq]
        constructor
        · intro e
          have := hm.2.1.eq_of_length (by simp; omega)
          exact this ▸ hm.1
        · intro l
          rw [hm.of_mem l]
          simp
      by_cases l : LC D (rep q ++ [c])
      · rw [if_pos (hz.mpr l)]
        have hL : ∀ w, LC D' w ↔ LC D w ∨ w = p ++ [c] := fun w => by
          rw [Gr.lc_some np sq hm.inner mx w]
          exact ⟨fun h => h.elim (fun h => h.elim .inl fun e => .inl (e ▸ l)) .inr, fun h => h.elim (fun h => .inl (.inl h)) .inr⟩
        have eo2 := hm.of_mem l
        exact step_fresh I Gr hs es np ho hL (by rw [eo2]; exact suf_app sq) (fun u su iu => by rw [eo2]; exact suf_app (mx u su iu)) _ up1_same (fun i h => by
          show up1 (up1 g.lk g.n (some 0)) g.n (some old) i = _
          rw [up1_ne (by omega), up1_ne (by omega)])
      · rw [if_neg (fun z => l (hz.mp z))]
        have rd : redOf (setEd (addG g (g.sz s + 1) (fun _ => none) (some 0)) c g.n (preOf g s c)) q c old = redOf g q c old := by
          unfold redOf
          have ec : chain (setEd (addG g (g.sz s + 1) (fun _ => none) (some 0)) c g.n (preOf g s c)) q = chain g q := by
            unfold chain
            rw [z2]
            exact I.chn_congr (fun i h => up1_ne (by omega)) _ hq
          rw [ec]
          refine tw_congr fun x hx => ?_
          obtain ⟨hx1, hx2⟩ := (I.mem_chain hq).mp hx
          have xp : x ∉ preOf g s c := fun z => ((I.pre hs x).mp z).2.2 (hm.inner.suf (suf_app hx2))
          have : (setEd (addG g (g.sz s + 1) (fun _ => none) (some 0)) c g.n (preOf g s c)).ed x c = g.ed x c := by
            show (if c = c ∧ x ∈ preOf g s c then _ else up1 g.ed g.n (fun _ => none) x c) = _
            rw [if_neg (fun z => xp z.2), up1_ne (by omega)]
          rw [this]
        rw [rd]
        refine step_both I Gr hs es np hq sq eo l mx _ _ (fun i h d => ?_) (fun d => ?_) (fun d => ?_) (fun i h => ?_) ?_ ?_
        · show (if d = c ∧ i ∈ redOf g q c old then some (g.n + 1) else up1 (fun x d => if d = c ∧ x ∈ preOf g s c then some g.n else up1 g.ed g.n (fun _ => none) x d) (g.n + 1) _ i d) = _
          rw [up1_ne (by omega), up1_ne (by omega)]
        · show (if d = c ∧ g.n ∈ redOf g q c old then some (g.n + 1) else up1 (fun x d => if d = c ∧ x ∈ preOf g s c then some g.n else up1 g.ed g.n (fun _ => none) x d) (g.n + 1) _ g.n d) = _
          rw [if_neg (fun z => by have := ((I.red hq eo _).mp z.2).1; omega), up1_ne (by omega)]
          show (if d = c ∧ g.n ∈ preOf g s c then some g.n else up1 g.ed g.n (fun _ => none) g.n d) = _
          rw [if_neg (fun z => by have := ((I.pre hs _).mp z.2).1; omega), up1_same]
        · show (if d = c ∧ g.n + 1 ∈ redOf g q c old then some (g.n + 1) else up1 (fun x d => if d = c ∧ x ∈ preOf g s c then some g.n else up1 g.ed g.n (fun _ => none) x d) (g.n + 1) _ (g.n + 1) d) = _
          rw [if_neg (fun z => by have := ((I.red hq eo _).mp z.2).1; omega), up1_same]
          show (if d = c ∧ old ∈ preOf g s c then some g.n else up1 g.ed g.n (fun _ => none) old d) = _
          rw [up1_ne on]
        · show up1 (up1 (up1 (up1 g.lk g.n (some 0)) (g.n + 1) _) old (some (g.n + 1))) g.n (some (g.n + 1)) i = _
          rw [up1_ne (by omega)]
          by_cases zo : i = old
          · rw [if_pos zo, zo, up1_same]
          · rw [if_neg zo, up1_ne zo, up1_ne (by omega), up1_ne (by omega)]
        · exact up1_same
        · show up1 (up1 (up1 (up1 g.lk g.n (some 0)) (g.n + 1) (up1 g.lk g.n (some 0) old)) old (some (g.n + 1))) g.n (some (g.n + 1)) (g.n + 1) = _
          rw [up1_ne (by omega), up1_ne (by omega), up1_same, up1_ne on]
end
end Sam
set_option linter.all false
/-! Shortest words, and the classes in breadth. -/
namespace Sam
/-- by the number of letters, then as texts -/
def slx (u v : Wd) : Prop := u.length < v.length ∨ (u.length = v.length ∧ u < v)
theorem slx_irr {u : Wd} (h : slx u u) : False := by
  rcases h with h | ⟨_, h⟩
  · omega
  · exact List.lt_irrefl u h
theorem slx_trans {u v w : Wd} (h1 : slx u v) (h2 : slx v w) : slx u w := by
  rcases h1 with h1 | ⟨e1, h1⟩
  · rcases h2 with h2 | ⟨e2, h2⟩
    · exact .inl (by omega)
    · exact .inl (by omega)
  · rcases h2 with h2 | ⟨e2, h2⟩
    · exact .inl (by omega)
    · exact .inr ⟨by omega, List.lt_trans h1 h2⟩
theorem slx_tot (u v : Wd) : slx u v ∨ u = v ∨ slx v u := by
  rcases Nat.lt_trichotomy u.length v.length with h | h | h
  · exact .inl (.inl h)
  · by_cases a : u < v
    · exact .inl (.inr ⟨h, a⟩)
    · by_cases b : v < u
      · exact .inr (.inr (.inr ⟨h.symm, b⟩))
      · exact .inr (.inl (List.le_antisymm (List.not_lt.mp b) (List.not_lt.mp a)))
  · exact .inr (.inr (.inl h))
theorem lt_snoc {c d : Nat} : ∀ {u v : Wd}, u.length = v.length → u < v → u ++ [c] < v ++ [d]
  | [], [], _, h => absurd h (List.lt_irrefl _)
  | a :: u, b :: v, hl, h => by
    rcases List.cons_lt_cons_iff.mp h with h | ⟨e, h⟩
    · exact List.cons_lt_cons_iff.mpr (.inl h)
    · exact List.cons_lt_cons_iff.mpr (.inr ⟨e, lt_snoc (by simpa using hl) h⟩)
theorem lt_last {c d : Nat} (h : c < d) : ∀ u : Wd, u ++ [c] < u ++ [d]
  | [] => List.cons_lt_cons_iff.mpr (.inl h)
  | a :: u => List.cons_lt_cons_iff.mpr (.inr ⟨rfl, lt_last h u⟩)
theorem slx_snoc {u v : Wd} {c d : Nat} (h : slx u v) : slx (u ++ [c]) (v ++ [d]) := by
  rcases h with h | ⟨e, h⟩
  · exact .inl (by simpa using h)
  · exact .inr ⟨by simpa using e, lt_snoc e h⟩
theorem slx_last {u : Wd} {c d : Nat} (h : c < d) : slx (u ++ [c]) (u ++ [d]) := .inr ⟨by simp, lt_last h u⟩
def leastSz (g : G) (i : Nat) : Nat := match g.lk i with
  | none => 0
  | some j => g.sz j + 1
/-- the shortest word of a class -/
def mw (g : G) (rep : Nat → Wd) (i : Nat) : Wd := (rep i).drop ((rep i).length - leastSz g i)
section
variable {D : List Wd} {g : G} {rep : Nat → Wd} (I : Inv (LC D) g rep)
include I
theorem Inv.cls {i : Nat} (hi : i < g.n) (u : Wd) : Ext (LC D) u (rep i) ↔ u <:+ rep i ∧ leastSz g i ≤ u.length := by
  unfold leastSz
  cases e : g.lk i with
  | none =>
    have z := I.lk_none hi e
    refine ⟨fun h => ⟨h.2.1, Nat.zero_le _⟩, fun ⟨s, _⟩ => ?_⟩
    rw [z] at s ⊢
    rw [List.suffix_nil.mp s]
    exact .self (z ▸ I.mem hi)
  | some j =>
    obtain ⟨hj, hz, sj, nj⟩ := I.dec hi e
    have l := ((I.lk i hi j).mp e).2
    have sj2 := I.sz j hj
    constructor
    · intro h
      refine ⟨h.2.1, ?_⟩
      show g.sz j + 1 ≤ u.length
      refine Classical.byContradiction fun n => nj ?_
      exact h.2.2 _ (I.mem hj) (suf_of h.2.1 sj (by omega)) sj
    · rintro ⟨s, h⟩
      have h : g.sz j + 1 ≤ u.length := h
      refine ⟨I.mem hi, s, fun w lw h1 h2 => Classical.byContradiction fun n => ?_⟩
      have := (l.2.2.2 w lw h2 n).length_le
      have := h1.length_le
      omega
theorem Inv.least_le {i : Nat} (hi : i < g.n) : leastSz g i ≤ (rep i).length := by
  have := (I.cls hi (rep i)).mp (.self (I.mem hi))
  exact this.2
theorem Inv.mw_len {i : Nat} (hi : i < g.n) : (mw g rep i).length = leastSz g i := by
  unfold mw
  have := I.least_le hi
  rw [List.length_drop]
  omega
theorem Inv.mw_ext {i : Nat} (hi : i < g.n) : Ext (LC D) (mw g rep i) (rep i) :=
  (I.cls hi _).mpr ⟨List.drop_suffix _ _, by rw [I.mw_len hi]; exact Nat.le_refl _⟩
theorem Inv.mw_le {i : Nat} (hi : i < g.n) {u : Wd} (h : Ext (LC D) u (rep i)) : mw g rep i <:+ u := by
  have := (I.cls hi u).mp h
  exact suf_of (List.drop_suffix _ _) this.1 (by rw [I.mw_len hi]; exact this.2)
theorem Inv.mw_inj {i j : Nat} (hi : i < g.n) (hj : j < g.n) (h : mw g rep i = mw g rep j) : i = j :=
  I.inj i j hi hj ((I.mw_ext hi).uniq (h ▸ I.mw_ext hj))
theorem Inv.mw_zero : mw g rep 0 = [] := by
  unfold mw
  rw [I.r0]
  exact List.drop_nil
theorem Inv.mw_nil {i : Nat} (hi : i < g.n) (h : mw g rep i = []) : i = 0 := I.mw_inj hi I.n0 (h.trans I.mw_zero.symm)
theorem Inv.mw_edge {x y c : Nat} (hy : y < g.n) (e : g.ed y c = some x) : x < g.n ∧ mw g rep x <:+ mw g rep y ++ [c] := by
  obtain ⟨hx, h⟩ := (I.ed y hy c x).mp e
  exact ⟨hx, I.mw_le hx ((ext_app (I.mw_ext hy)).mpr h)⟩
theorem Inv.mw_par {x : Nat} (hx : x < g.n) (n : mw g rep x ≠ []) : ∃ y c, y < g.n ∧ mw g rep x = mw g rep y ++ [c] ∧ g.ed y c = some x := by
  rcases List.eq_nil_or_concat (mw g rep x) with e | ⟨u, c, e⟩
  · exact absurd e n
  · rw [List.concat_eq_append] at e
    have hm := I.mw_ext hx
    rw [e] at hm
    obtain ⟨v, hv⟩ := hm.inner.left.ext
    obtain ⟨y, hy, ey⟩ := (I.lc v).mp hv.1
    subst ey
    have h1 : Ext (LC D) (rep y ++ [c]) (rep x) := (ext_app hv).mp hm
    have h2 := I.mw_le hx ((ext_app (I.mw_ext hy)).mpr h1)
    rw [e] at h2
    have h3 := (suf_snoc h2).2
    have h4 := I.mw_le hy hv
    exact ⟨y, c, hy, by rw [e, suf_antisymm h3 h4], (I.ed y hy c x).mpr ⟨hx, h1⟩⟩
end
/-- the classes met so far: those whose shortest word without its last letter has been gone through -/
structure Bf (g : G) (rep : Nat → Wd) (os : List Nat) (at_ : Nat) (P : Nat → Prop) : Prop where
  h0 : os[0]? = some 0
  lt : ∀ x ∈ os, x < g.n
  so : os.Pairwise (fun a b => slx (mw g rep a) (mw g rep b))
  mem : ∀ x, x < g.n → (x ∈ os ↔ x = 0 ∨ ∃ k y c, os[k]? = some y ∧ mw g rep x = mw g rep y ++ [c] ∧ (k < at_ ∨ (k = at_ ∧ P c)))
theorem Bf.nd {g : G} {rep : Nat → Wd} {os : List Nat} {at_ : Nat} {P : Nat → Prop} (B : Bf g rep os at_ P) : os.Nodup := by
  refine List.Pairwise.imp ?_ B.so
  intro a b h e
  rw [e] at h
  exact slx_irr h
theorem nd_len : ∀ (n : Nat) (l : List Nat), l.Nodup → (∀ x ∈ l, x < n) → l.length ≤ n
  | 0, [], _, _ => Nat.le_refl _
  | 0, a :: l, _, h => absurd (h a (List.mem_cons_self ..)) (Nat.not_lt_zero _)
  | n + 1, l, nd, h => by
    have h1 := nd_len n (l.erase n) (nd.erase n) fun x hx => by
      have := h x (List.mem_of_mem_erase hx)
      have : x ≠ n := (List.Nodup.mem_erase_iff nd).mp hx |>.1
      omega
    have := List.length_erase (a := n) (l := l)
    split at this <;> omega
section
variable {D : List Wd} {g : G} {rep : Nat → Wd} (I : Inv (LC D) g rep) {os : List Nat} {at_ : Nat} {P : Nat → Prop}
include I
theorem Bf.start : Bf g rep [0] 0 fun _ => False := by
  refine ⟨rfl, fun x h => by rw [List.mem_singleton.mp h]; exact I.n0, by simp, fun x hx => ?_⟩
  rw [List.mem_singleton]
  refine ⟨.inl, fun h => h.elim id ?_⟩
  rintro ⟨k, y, c, _, _, h | ⟨_, h⟩⟩
  · omega
  · exact h.elim
theorem Bf.pos (B : Bf g rep os at_ P) {i j x y : Nat} (hx : os[i]? = some x) (hy : os[j]? = some y) (h : slx (mw g rep x) (mw g rep y)) : i < j := by
  refine Classical.byContradiction fun n => ?_
  obtain ⟨hi, ei⟩ := List.getElem?_eq_some_iff.mp hx
  obtain ⟨hj, ej⟩ := List.getElem?_eq_some_iff.mp hy
  by_cases e : i = j
  · subst e
    rw [ei] at ej
    exact slx_irr (ej ▸ h)
  · have := List.pairwise_iff_getElem.mp B.so j i hj hi (by omega)
    rw [ei, ej] at this
    exact slx_irr (slx_trans h this)
theorem Bf.all (B : Bf g rep os at_ P) {y : Nat} (hy : os[at_]? = some y) : ∀ (n : Nat) {z : Nat}, (mw g rep z).length ≤ n → z < g.n → slx (mw g rep z) (mw g rep y) → ∃ k, k < at_ ∧ os[k]? = some z
  | n, z, hn, hz, h => by
    have fin : z ∈ os → ∃ k, k < at_ ∧ os[k]? = some z := fun m => by
      obtain ⟨k, hk, ek⟩ := List.getElem_of_mem m
      have e : os[k]? = some z := by rw [List.getElem?_eq_getElem hk, ek]
      exact ⟨k, Bf.pos I B e hy h, e⟩
    by_cases z0 : z = 0
    · exact fin ((B.mem z hz).mpr (.inl z0))
    · obtain ⟨y', c, hy', e, _⟩ := I.mw_par hz (fun q => z0 (I.mw_nil hz q))
      have hl : (mw g rep z).length = (mw g rep y').length + 1 := by rw [e]; simp
      match n, hn with
      | 0, hn => omega
      | n + 1, hn =>
        have hle : (mw g rep z).length ≤ (mw g rep y).length := by
          rcases h with h | ⟨h, _⟩ <;> omega
        obtain ⟨k, hk, ek⟩ := Bf.all B hy n (z := y') (by omega) hy' (.inl (by omega))
        exact fin ((B.mem z hz).mpr (.inr ⟨k, y', c, ek, e, .inl hk⟩))
/-- a letter of the class that is gone through -/
theorem Bf.step (B : Bf g rep os at_ P) {y c x : Nat} (hy : os[at_]? = some y) (e : g.ed y c = some x) (hP : ∀ d, P d → d < c) :
    x < g.n ∧ Bf g rep (if x ∈ os then os else os ++ [x]) at_ (fun d => P d ∨ d = c) := by
  have yn := B.lt y (List.mem_of_getElem? hy)
  obtain ⟨hx, sx⟩ := I.mw_edge yn e
  refine ⟨hx, ?_⟩
  have hat : at_ < os.length := (List.getElem?_eq_some_iff.mp hy).1
  by_cases k : mw g rep x = mw g rep y ++ [c]
  · have nx : x ∉ os := fun m => by
      rcases (B.mem x hx).mp m with z | ⟨j, y', c', hj, e', h⟩
      · rw [z, I.mw_zero] at k
        simp at k
      · rw [k] at e'
        obtain ⟨e1, e2⟩ := List.append_inj' e' rfl
        have e3 : c = c' := by simpa using e2
        have yn' := B.lt y' (List.mem_of_getElem? hj)
        have e4 := I.mw_inj yn yn' e1
        subst e3 e4
        rcases h with h | ⟨_, h⟩
        · have := (List.getElem?_inj hat B.nd).mp (hy.trans hj.symm)
          omega
        · exact Nat.lt_irrefl _ (hP c h)
    rw [if_neg nx]
    refine ⟨by rw [List.getElem?_append_left (by omega)]; exact B.h0, fun z hz => ?_, ?_, fun z hz => ?_⟩
    · rcases List.mem_append.mp hz with m | m
      · exact B.lt z m
      · rw [List.mem_singleton.mp m]; exact hx
    · rw [List.pairwise_append]
      refine ⟨B.so, by simp, fun z hz x' hx' => ?_⟩
      rw [List.mem_singleton.mp hx', k]
      rcases (B.mem z (B.lt z hz)).mp hz with q | ⟨j, y', c', hj, e', h⟩
      · rw [q, I.mw_zero]
        exact .inl (by simp)
      · rw [e']
        rcases h with h | ⟨h, h2⟩
        · refine slx_snoc ?_
          obtain ⟨hj1, hj2⟩ := List.getElem?_eq_some_iff.mp hj
          obtain ⟨ha1, ha2⟩ := List.getElem?_eq_some_iff.mp hy
          have := List.pairwise_iff_getElem.mp B.so j at_ hj1 ha1 h
          rw [hj2, ha2] at this
          exact this
        · subst h
          rw [hy] at hj
          cases hj
          exact slx_last (hP c' h2)
    · rw [List.mem_append, List.mem_singleton, B.mem z hz]
      constructor
      · rintro ((q | ⟨j, y', c', hj, e', h⟩) | q)
        · exact .inl q
        · refine .inr ⟨j, y', c', ?_, e', h.imp id fun h => ⟨h.1, .inl h.2⟩⟩
          rw [List.getElem?_append_left (List.getElem?_eq_some_iff.mp hj).1]
          exact hj
        · refine .inr ⟨at_, y, c, ?_, by rw [q]; exact k, .inr ⟨rfl, .inr rfl⟩⟩
          rw [List.getElem?_append_left hat]
          exact hy
      · rintro (q | ⟨j, y', c', hj, e', h⟩)
        · exact .inl (.inl q)
        · have hj2 : j < os.length := by rcases h with h | ⟨h, _⟩ <;> omega
          rw [List.getElem?_append_left hj2] at hj
          rcases h with h | ⟨h, h2 | h2⟩
          · exact .inl (.inr ⟨j, y', c', hj, e', .inl h⟩)
          · exact .inl (.inr ⟨j, y', c', hj, e', .inr ⟨h, h2⟩⟩)
          · right
            subst h h2
            rw [hy] at hj
            cases hj
            exact I.mw_inj hz hx (e'.trans k.symm)
  · have xm : x ∈ os := by
      by_cases x0 : x = 0
      · exact (B.mem x hx).mpr (.inl x0)
      · obtain ⟨y', c', hy', e', _⟩ := I.mw_par hx (fun q => x0 (I.mw_nil hx q))
        have hl : (mw g rep x).length = (mw g rep y').length + 1 := by rw [e']; simp
        have hle := sx.length_le
        have hne : (mw g rep x).length ≠ (mw g rep y ++ [c]).length := fun q => k (sx.eq_of_length q)
        simp at hle hne
        obtain ⟨j, hj, ej⟩ := Bf.all I B hy _ (Nat.le_refl _) hy' (.inl (by omega))
        exact (B.mem x hx).mpr (.inr ⟨j, y', c', ej, e', .inl hj⟩)
    rw [if_pos xm]
    refine ⟨B.h0, B.lt, B.so, fun z hz => ?_⟩
    rw [B.mem z hz]
    constructor
    · rintro (q | ⟨j, y', c', hj, e', h⟩)
      · exact .inl q
      · exact .inr ⟨j, y', c', hj, e', h.imp id fun h => ⟨h.1, .inl h.2⟩⟩
    · rintro (q | ⟨j, y', c', hj, e', h⟩)
      · exact .inl q
      · rcases h with h | ⟨h, h2 | h2⟩
        · exact .inr ⟨j, y', c', hj, e', .inl h⟩
        · exact .inr ⟨j, y', c', hj, e', .inr ⟨h, h2⟩⟩
        · subst h h2
          rw [hy] at hj
          cases hj
          have : g.ed y c' = some z := by
            have h1 := I.mw_ext hz
            rw [e'] at h1
            exact (I.ed y yn c' z).mpr ⟨hz, (ext_app (I.mw_ext yn)).mp h1⟩
          rw [e] at this
          have := Option.some.inj this
          exact absurd (this ▸ e') k
/-- all its letters have been gone through -/
theorem Bf.next (B : Bf g rep os at_ P) {y : Nat} (hy : os[at_]? = some y) (h : ∀ c, (∃ x, g.ed y c = some x) → P c) : Bf g rep os (at_ + 1) fun _ => False := by
  have yn := B.lt y (List.mem_of_getElem? hy)
  refine ⟨B.h0, B.lt, B.so, fun z hz => ?_⟩
  rw [B.mem z hz]
  constructor
  · rintro (q | ⟨j, y', c', hj, e', k | ⟨k, _⟩⟩)
    · exact .inl q
    · exact .inr ⟨j, y', c', hj, e', .inl (by omega)⟩
    · exact .inr ⟨j, y', c', hj, e', .inl (by omega)⟩
  · rintro (q | ⟨j, y', c', hj, e', k | ⟨_, k⟩⟩)
    · exact .inl q
    · by_cases k2 : j = at_
      · subst k2
        rw [hy] at hj
        cases hj
        refine .inr ⟨j, y, c', hy, e', .inr ⟨rfl, h c' ⟨z, ?_⟩⟩⟩
        have h1 := I.mw_ext hz
        rw [e'] at h1
        exact (I.ed y yn c' z).mpr ⟨hz, (ext_app (I.mw_ext yn)).mp h1⟩
      · exact .inr ⟨j, y', c', hj, e', .inl (by omega)⟩
    · exact k.elim
theorem Bf.len_le (B : Bf g rep os at_ P) : os.length ≤ g.n := nd_len g.n os B.nd B.lt
/-- at the end all classes stand there -/
theorem Bf.full (B : Bf g rep os at_ P) (h : os.length ≤ at_) : ∀ (n : Nat) {z : Nat}, (mw g rep z).length ≤ n → z < g.n → z ∈ os
  | n, z, hn, hz => by
    by_cases z0 : z = 0
    · exact (B.mem z hz).mpr (.inl z0)
    · obtain ⟨y', c', hy', e', _⟩ := I.mw_par hz (fun q => z0 (I.mw_nil hz q))
      have hl : (mw g rep z).length = (mw g rep y').length + 1 := by rw [e']; simp
      match n, hn with
      | 0, hn => omega
      | n + 1, hn =>
        have m := Bf.full B h n (z := y') (by omega) hy'
        obtain ⟨j, hj, ej⟩ := List.getElem_of_mem m
        exact (B.mem z hz).mpr (.inr ⟨j, y', c', by rw [List.getElem?_eq_getElem hj, ej], e', .inl (by omega)⟩)
end
end Sam
set_option linter.all false
/-! The start, a new text, the numbers in order; the places of words. -/
namespace Sam
theorem nd_same {α : Type} {l m : List α} (h1 : l.Nodup) (h2 : m.Nodup) (h : ∀ a, a ∈ l ↔ a ∈ m) : l.length = m.length := ((List.perm_ext_iff_of_nodup h1 h2).mpr h).length_eq
theorem inner_nil {u : Wd} : Inner [[]] u ↔ u = [] := by
  constructor
  · rintro ⟨t, m, x, y, e⟩
    rw [List.mem_singleton.mp m] at e
    have := congrArg List.length e
    simp at this
    exact List.eq_nil_of_length_eq_zero (by omega)
  · rintro rfl
    exact ⟨[], by simp, [], [], rfl⟩
theorem lc_start (w : Wd) : LC [[]] w ↔ w = [] := by
  constructor
  · exact fun h => inner_nil.mp h.inner
  · rintro rfl
    exact .inl ⟨[], by simp, [], rfl⟩
def g0 : G := ⟨1, fun _ _ => none, fun _ => 0, fun _ => none⟩
theorem inv_start : Inv (LC [[]]) g0 (fun _ => []) := by
  have z : ∀ i, i < 1 → i = 0 := fun i h => by omega
  refine ⟨Nat.one_pos, rfl, fun i j hi hj _ => by rw [z i hi, z j hj], fun w => ?_, fun _ _ => rfl, fun i hi c j => ?_, fun i hi j => ?_⟩
  · rw [lc_start]
    exact ⟨fun e => ⟨0, Nat.one_pos, e.symm⟩, fun ⟨_, _, e⟩ => e.symm⟩
  · refine ⟨(fun e => by cases e), fun ⟨_, e⟩ => ?_⟩
    have := e.2.1.length_le
    simp at this
  · refine ⟨(fun e => by cases e), fun ⟨_, e⟩ => absurd rfl e.2.2.1⟩
theorem lc_text {D : List Wd} (h : D ≠ []) : LC (D ++ [[]]) = LC D := by
  obtain ⟨t, ht⟩ := List.exists_mem_of_ne_nil D h
  have inn : ∀ u, Inner (D ++ [[]]) u ↔ Inner D u := fun u => by
    constructor
    · rintro ⟨t', m, x, y, e⟩
      rcases List.mem_append.mp m with m | m
      · exact ⟨t', m, x, y, e⟩
      · have : u = [] := inner_nil.mp ⟨t', m, x, y, e⟩
        exact ⟨t, ht, [], t, by rw [this]; rfl⟩
    · rintro ⟨t', m, x, y, e⟩
      exact ⟨t', List.mem_append_left _ m, x, y, e⟩
  have pre : ∀ u, Pre (D ++ [[]]) u ↔ Pre D u := fun u => by
    constructor
    · rintro ⟨t', m, y, e⟩
      rcases List.mem_append.mp m with m | m
      · exact ⟨t', m, y, e⟩
      · have : u = [] := inner_nil.mp ⟨t', m, [], y, e⟩
        exact ⟨t, ht, t, by rw [this]; rfl⟩
    · rintro ⟨t', m, y, e⟩
      exact ⟨t', List.mem_append_left _ m, y, e⟩
  funext u
  unfold LC
  rw [pre]
  refine propext ⟨fun h => h.imp id ?_, fun h => h.imp id ?_⟩
  · rintro ⟨a, b, n, h1, h2⟩
    exact ⟨a, b, n, (inn _).mp h1, (inn _).mp h2⟩
  · rintro ⟨a, b, n, h1, h2⟩
    exact ⟨a, b, n, (inn _).mpr h1, (inn _).mpr h2⟩
/-! other numbers -/
def reG (g : G) (os : List Nat) : G := ⟨g.n, fun k c => (g.ed (os.getD k 0) c).map fun x => os.idxOf x, fun k => g.sz (os.getD k 0), fun k => (g.lk (os.getD k 0)).map fun x => os.idxOf x⟩
def reR (rep : Nat → Wd) (os : List Nat) : Nat → Wd := fun k => rep (os.getD k 0)
section
variable {L : Wd → Prop} {g : G} {rep : Nat → Wd} {os : List Nat} (I : Inv L g rep) (nd : os.Nodup) (lt : ∀ x ∈ os, x < g.n) (full : ∀ x, x < g.n → x ∈ os)
include nd lt full
theorem re_len : os.length = g.n := by
  have := nd_same nd (List.nodup_range (n := g.n)) fun a => ⟨fun h => List.mem_range.mpr (lt a h), fun h => full a (List.mem_range.mp h)⟩
  rwa [List.length_range] at this
theorem re_o {k : Nat} (h : k < g.n) : os.getD k 0 < g.n ∧ os.idxOf (os.getD k 0) = k := by
  have hl := re_len nd lt full
  have hk : k < os.length := by omega
  have e : os.getD k 0 = os[k] := by rw [List.getD_eq_getElem?_getD, List.getElem?_eq_getElem hk]; rfl
  rw [e]
  exact ⟨lt _ (List.getElem_mem hk), nd.idxOf_getElem k hk⟩
theorem re_n {x : Nat} (h : x < g.n) : os.idxOf x < g.n ∧ os.getD (os.idxOf x) 0 = x := by
  have hl := re_len nd lt full
  have hk := List.idxOf_lt_length_of_mem (full x h)
  refine ⟨by omega, ?_⟩
  rw [List.getD_eq_getElem?_getD, List.getElem?_eq_getElem hk]
  exact List.getElem_idxOf hk
include I
theorem Inv.reorder (h0 : os.getD 0 0 = 0) : Inv L (reG g os) (reR rep os) := by
  have o := fun {k : Nat} => re_o (k := k) nd lt full
  have n := fun {k : Nat} => re_n (x := k) nd lt full
  have map_iff : ∀ (m : Option Nat) (j : Nat), (∀ x, m = some x → x < g.n) → (m.map (fun x => os.idxOf x) = some j ↔ j < g.n ∧ m = some (os.getD j 0)) := fun m j hm => by
    cases m with
    | none => simp
    | some x =>
      have hx := hm x rfl
      constructor
      · intro e
        have e2 : os.idxOf x = j := Option.some.inj e
        rw [← e2]
        exact ⟨(n hx).1, by rw [(n hx).2]⟩
      · rintro ⟨hj, e⟩
        have e2 : x = os.getD j 0 := Option.some.inj e
        show some (os.idxOf x) = some j
        rw [e2, (o hj).2]
  refine ⟨I.n0, ?_, fun i j hi hj e => ?_, fun w => ?_, fun i hi => ?_, fun i hi c j => ?_, fun i hi j => ?_⟩
  · show rep (os.getD 0 0) = []
    rw [h0]
    exact I.r0
  · have := I.inj _ _ (o hi).1 (o hj).1 e
    rw [← (o hi).2, ← (o hj).2, this]
  · rw [I.lc]
    constructor
    · rintro ⟨i, hi, e⟩
      exact ⟨os.idxOf i, (n hi).1, by show rep (os.getD (os.idxOf i) 0) = w; rw [(n hi).2]; exact e⟩
    · rintro ⟨i, hi, e⟩
      exact ⟨_, (o hi).1, e⟩
  · exact I.sz _ (o hi).1
  · show (g.ed (os.getD i 0) c).map (fun x => os.idxOf x) = some j ↔ _
    rw [map_iff _ _ fun x hx => ((I.ed _ (o hi).1 c x).mp hx).1, I.ed _ (o hi).1 c]
    constructor
    · rintro ⟨hj, _, e⟩
      exact ⟨hj, e⟩
    · rintro ⟨hj, e⟩
      exact ⟨hj, (o hj).1, e⟩
  · show (g.lk (os.getD i 0)).map (fun x => os.idxOf x) = some j ↔ _
    rw [map_iff _ _ fun x hx => ((I.lk _ (o hi).1 x).mp hx).1, I.lk _ (o hi).1]
    constructor
    · rintro ⟨hj, _, e⟩
      exact ⟨hj, e⟩
    · rintro ⟨hj, e⟩
      exact ⟨hj, (o hj).1, e⟩
theorem Inv.re_mw {k : Nat} (h : k < g.n) : mw (reG g os) (reR rep os) k = mw g rep (os.getD k 0) := by
  have o := fun {k : Nat} => re_o (k := k) nd lt full
  have n := fun {k : Nat} => re_n (x := k) nd lt full
  have : leastSz (reG g os) k = leastSz g (os.getD k 0) := by
    unfold leastSz
    show (match (g.lk (os.getD k 0)).map (fun x => os.idxOf x) with | none => 0 | some j => g.sz (os.getD j 0) + 1) = _
    cases e : g.lk (os.getD k 0) with
    | none => rfl
    | some x =>
      have hx := (I.dec (o h).1 e).1
      show g.sz (os.getD (os.idxOf x) 0) + 1 = g.sz x + 1
      rw [(n hx).2]
  unfold mw
  rw [this]
  rfl
end
/-- the classes of D, by their shortest words -/
structure Fin (D : List Wd) (g : G) (rep : Nat → Wd) : Prop where
  inv : Inv (LC D) g rep
  so : ∀ i j, i < j → j < g.n → slx (mw g rep i) (mw g rep j)
theorem fin_of {D : List Wd} {g : G} {rep : Nat → Wd} {os : List Nat} {at_ : Nat} {P : Nat → Prop} (I : Inv (LC D) g rep) (B : Bf g rep os at_ P) (h : os.length ≤ at_) : Fin D (reG g os) (reR rep os) := by
  have full : ∀ x, x < g.n → x ∈ os := fun x hx => Bf.full I B h _ (Nat.le_refl _) hx
  refine ⟨I.reorder B.nd B.lt full (by rw [List.getD_eq_getElem?_getD, B.h0]; rfl), fun i j hij hj => ?_⟩
  have hj : j < g.n := hj
  have hl := re_len B.nd B.lt full
  rw [I.re_mw B.nd B.lt full (by omega), I.re_mw B.nd B.lt full hj]
  have h1 : i < os.length := by omega
  have h2 : j < os.length := by omega
  have := List.pairwise_iff_getElem.mp B.so i j h1 h2 hij
  rw [List.getD_eq_getElem?_getD, List.getD_eq_getElem?_getD, List.getElem?_eq_getElem h1, List.getElem?_eq_getElem h2]
  exact this
/-- a link has a less number -/
theorem Fin.lk_lt {D : List Wd} {g : G} {rep : Nat → Wd} (F : Fin D g rep) {i j : Nat} (hi : i < g.n) (e : g.lk i = some j) : j < i := by
  obtain ⟨hj, hz, _⟩ := F.inv.dec hi e
  rcases Nat.lt_trichotomy i j with h | h | h
  · have := F.so i j h hj
    have h1 := F.inv.mw_len hi
    have h2 := F.inv.mw_len hj
    have h3 := F.inv.least_le hj
    have h4 := F.inv.sz j hj
    have h5 : leastSz g i = g.sz j + 1 := by unfold leastSz; rw [e]
    rcases this with q | ⟨q, _⟩ <;> omega
  · subst h; omega
  · exact h
/-! places -/
/-- where a word ends in a text -/
def endsIn (w t : Wd) : List Nat := (List.range (t.length + 1)).filter fun k => w.isSuffixOf (t.take k)
def plc (hs : List (Int × Wd)) (w : Wd) : List (Int × Nat) := hs.flatMap fun q => (endsIn w q.2).map fun k => (q.1, k)
theorem mem_ends {w t : Wd} {k : Nat} : k ∈ endsIn w t ↔ k ≤ t.length ∧ w <:+ t.take k := by
  unfold endsIn
  rw [List.mem_filter, List.mem_range, List.isSuffixOf_iff_suffix]
  exact ⟨fun h => ⟨by omega, h.2⟩, fun h => ⟨by omega, h.2⟩⟩
theorem mem_plc {hs : List (Int × Wd)} {w : Wd} {m : Int} {k : Nat} : (m, k) ∈ plc hs w ↔ ∃ t, (m, t) ∈ hs ∧ k ≤ t.length ∧ w <:+ t.take k := by
  unfold plc
  rw [List.mem_flatMap]
  constructor
  · rintro ⟨⟨n, t⟩, h1, h2⟩
    obtain ⟨j, hj, e⟩ := List.mem_map.mp h2
    have e1 : n = m := congrArg Prod.fst e
    have e2 : j = k := congrArg Prod.snd e
    subst e1 e2
    exact ⟨t, h1, mem_ends.mp hj⟩
  · rintro ⟨t, h1, h2⟩
    exact ⟨(m, t), h1, List.mem_map.mpr ⟨k, mem_ends.mpr h2, rfl⟩⟩
/-- the places' order -/
def plt (p q : Int × Nat) : Prop := p.1 < q.1 ∨ (p.1 = q.1 ∧ p.2 < q.2)
theorem plc_sorted : ∀ {hs : List (Int × Wd)}, (hs.map (·.1)).Pairwise (· < ·) → ∀ w, (plc hs w).Pairwise plt
  | [], _, w => List.Pairwise.nil
  | q :: r, h, w => by
    rw [List.map_cons, List.pairwise_cons] at h
    show ((endsIn w q.2).map (fun k => (q.1, k)) ++ plc r w).Pairwise plt
    rw [List.pairwise_append]
    refine ⟨?_, plc_sorted h.2 w, fun a ha b hb => ?_⟩
    · rw [List.pairwise_map]
      have : (endsIn w q.2).Pairwise (· < ·) := List.Pairwise.filter _ List.pairwise_lt_range
      exact this.imp fun h => .inr ⟨rfl, h⟩
    · obtain ⟨k, _, rfl⟩ := List.mem_map.mp ha
      obtain ⟨m, j⟩ := b
      obtain ⟨t, ht, _⟩ := mem_plc.mp hb
      exact .inl (h.1 m (List.mem_map.mpr ⟨(m, t), ht, rfl⟩))
theorem plt_irr {p : Int × Nat} (h : plt p p) : False := by
  rcases h with h | ⟨_, h⟩ <;> omega
theorem plt_asym {p q : Int × Nat} (h1 : plt p q) (h2 : plt q p) : False := by
  rcases h1 with h1 | ⟨e, h1⟩ <;> rcases h2 with h2 | ⟨e2, h2⟩ <;> omega
theorem nd_plt {l : List (Int × Nat)} (h : l.Pairwise plt) : l.Nodup := by
  refine List.Pairwise.imp ?_ h
  intro a b h e
  rw [e] at h
  exact plt_irr h
/-- a list of the same places, in order, is the list -/
theorem plc_eq {l m : List (Int × Nat)} (h1 : l.Pairwise plt) (h2 : m.Pairwise plt) (h : ∀ q, q ∈ l ↔ q ∈ m) : l = m :=
  List.Perm.eq_of_pairwise (fun a b _ _ h1 h2 => (plt_asym h1 h2).elim) h1 h2 ((List.perm_ext_iff_of_nodup (nd_plt h1) (nd_plt h2)).mpr h)
/-- the texts of a house, the empty one besides -/
def txs (hs : List (Int × Wd)) : List Wd := [] :: hs.map (·.2)
theorem txs_mem {hs : List (Int × Wd)} {m : Int} {t : Wd} (h : (m, t) ∈ hs) : t ∈ txs hs := List.mem_cons_of_mem _ (List.mem_map.mpr ⟨(m, t), h, rfl⟩)
theorem inner_plc {hs : List (Int × Wd)} (ne : hs ≠ []) {w : Wd} : Inner (txs hs) w ↔ ∃ q, q ∈ plc hs w := by
  constructor
  · rintro ⟨t, m, x, y, e⟩
    rcases List.mem_cons.mp m with z | m
    · have : w = [] := inner_nil.mp ⟨t, by rw [z]; simp, x, y, e⟩
      obtain ⟨⟨n, s⟩, hq⟩ := List.exists_mem_of_ne_nil hs ne
      exact ⟨(n, 0), mem_plc.mpr ⟨s, hq, Nat.zero_le _, by rw [this]; exact List.nil_suffix⟩⟩
    · obtain ⟨⟨n, s⟩, hq, rfl⟩ := List.mem_map.mp m
      refine ⟨(n, x.length + w.length), mem_plc.mpr ⟨s, hq, ?_, ?_⟩⟩
      · have := congrArg List.length e
        simp at this
        omega
      · have : s = (x ++ w) ++ y := e
        rw [this, List.take_left' (by simp)]
        exact ⟨x, rfl⟩
  · rintro ⟨⟨m, k⟩, hq⟩
    obtain ⟨t, ht, hk, x, e⟩ := mem_plc.mp hq
    exact ⟨t, txs_mem ht, x, t.drop k, by rw [e, List.take_append_drop]⟩
theorem plc_ext {hs : List (Int × Wd)} {u v : Wd} (h : Ext (LC (txs hs)) u v) : plc hs u = plc hs v := by
  have key : ∀ q ∈ hs, endsIn u q.2 = endsIn v q.2 := fun ⟨m, t⟩ hq => by
    refine List.filter_congr fun k _ => ?_
    refine Bool.eq_iff_iff.mpr ?_
    rw [List.isSuffixOf_iff_suffix, List.isSuffixOf_iff_suffix]
    constructor
    · rintro ⟨x, e⟩
      obtain ⟨x', e'⟩ := h.occ (txs_mem hq) (x := x) (y := t.drop k) (by rw [e, List.take_append_drop])
      refine ⟨x', ?_⟩
      have e2 : t.take k ++ t.drop k = (x' ++ v) ++ t.drop k := by rw [List.take_append_drop]; exact e'
      exact (List.append_inj' e2 rfl).1.symm
    · exact fun s => h.2.1.trans s
  unfold plc
  rw [List.flatMap_def, List.flatMap_def]
  congr 1
  refine List.map_congr_left fun q hq => ?_
  rw [key q hq]
/-- unlike classes end at unlike places -/
theorem plc_inj {hs : List (Int × Wd)} (ne : hs ≠ []) (asc : (hs.map (·.1)).Pairwise (· < ·)) {u v : Wd} (hu : LC (txs hs) u) (hv : LC (txs hs) v) (e : plc hs u = plc hs v) : u = v := by
  have one : ∀ {u v : Wd}, LC (txs hs) u → plc hs u = plc hs v → u <:+ v → u = v := fun {u v} hu e s => by
    refine Classical.byContradiction fun n => ?_
    have uniq : ∀ {m t t'}, (m, t) ∈ hs → (m, t') ∈ hs → t = t' := fun {m t t'} h1 h2 => by
      obtain ⟨i, hi, ei⟩ := List.getElem_of_mem h1
      obtain ⟨j, hj, ej⟩ := List.getElem_of_mem h2
      have nd : (hs.map (·.1)).Nodup := asc.imp fun h e => by rw [e] at h; omega
      have : (hs.map (·.1))[i]? = (hs.map (·.1))[j]? := by
        rw [List.getElem?_map, List.getElem?_map, List.getElem?_eq_getElem hi, List.getElem?_eq_getElem hj, ei, ej]
        rfl
      have := (List.getElem?_inj (by rw [List.length_map]; exact hi) nd).mp this
      subst this
      rw [ei] at ej
      exact congrArg Prod.snd ej
    have tr : ∀ {m t k}, (m, t) ∈ hs → k ≤ t.length → u <:+ t.take k → v <:+ t.take k := fun {m t k} h1 h2 h3 => by
      have := mem_plc.mpr ⟨t, h1, h2, h3⟩
      rw [e] at this
      obtain ⟨t', h4, _, h5⟩ := mem_plc.mp this
      exact uniq h1 h4 ▸ h5
    obtain ⟨d, hd⟩ := suf_cons s n
    have hlen : u.length < v.length := by
      have := hd.length_le
      rw [List.length_cons] at this
      exact this
    -- what stands ahead of u
    have ahead : ∀ a, Inner (txs hs) (a :: u) → a = d := fun a ia => by
      obtain ⟨⟨m, k⟩, hq⟩ := (inner_plc ne).mp ia
      obtain ⟨t, ht, hk, h3⟩ := mem_plc.mp hq
      have h4 := tr ht hk (List.IsSuffix.trans ⟨[a], rfl⟩ h3)
      exact cons_suf_inj h3 (hd.trans h4)
    rcases hu with ⟨t, m, y, et⟩ | ⟨a, b, nab, ha, hb⟩
    · rcases List.mem_cons.mp m with z | m
      · have hu0 : u = [] := by
          rw [z] at et
          have := congrArg List.length et
          simp at this
          exact List.eq_nil_of_length_eq_zero (by omega)
        obtain ⟨⟨k, t'⟩, hq⟩ := List.exists_mem_of_ne_nil hs ne
        have := (tr hq (Nat.zero_le _) (by rw [hu0]; exact List.nil_suffix)).length_le
        rw [List.take_zero, List.length_nil] at this
        omega
      · obtain ⟨⟨k, t'⟩, hq, rfl⟩ := List.mem_map.mp m
        have et : t' = u ++ y := et
        have := (tr (k := u.length) hq (by rw [et]; simp) (by rw [et, List.take_left' rfl]; exact List.suffix_refl _)).length_le
        rw [et, List.take_left' rfl] at this
        omega
    · exact nab ((ahead a ha).trans (ahead b hb).symm)
  obtain ⟨⟨m, k⟩, hq⟩ := (inner_plc ne).mp hu.inner
  obtain ⟨t, ht, hk, h3⟩ := mem_plc.mp hq
  have hq2 := e ▸ hq
  obtain ⟨t', ht', hk', h3'⟩ := mem_plc.mp hq2
  have uniq : t = t' := by
    obtain ⟨i, hi, ei⟩ := List.getElem_of_mem ht
    obtain ⟨j, hj, ej⟩ := List.getElem_of_mem ht'
    have nd : (hs.map (·.1)).Nodup := asc.imp fun h e => by rw [e] at h; omega
    have : (hs.map (·.1))[i]? = (hs.map (·.1))[j]? := by
      rw [List.getElem?_map, List.getElem?_map, List.getElem?_eq_getElem hi, List.getElem?_eq_getElem hj, ei, ej]
      rfl
    have := (List.getElem?_inj (by rw [List.length_map]; exact hi) nd).mp this
    subst this
    rw [ei] at ej
    exact congrArg Prod.snd ej
  subst uniq
  rcases suf_tot h3 h3' with s | s
  · exact one hu e s
  · exact (one hv e.symm s).symm
end Sam
set_option linter.all false
/-! Places gathered along links; classes found word by word. -/
namespace Sam
/-- q is the place where the beginning v of a text ends -/
def dirP (hs : List (Int × Wd)) (v : Wd) (q : Int × Nat) : Prop := ∃ t, (q.1, t) ∈ hs ∧ q.2 ≤ t.length ∧ t.take q.2 = v
structure Row (hs : List (Int × Wd)) (g : G) (rep : Nat → Wd) (i k : Nat) (r : List (Int × Nat)) : Prop where
  nd : r.Nodup
  mem : ∀ q, q ∈ r ↔ dirP hs (rep k) q ∨ ∃ j, i ≤ j ∧ j < g.n ∧ g.lk j = some k ∧ q ∈ plc hs (rep j)
theorem uniq_text {hs : List (Int × Wd)} (asc : (hs.map (·.1)).Pairwise (· < ·)) {m : Int} {t t' : Wd} (h1 : (m, t) ∈ hs) (h2 : (m, t') ∈ hs) : t = t' := by
  obtain ⟨i, hi, ei⟩ := List.getElem_of_mem h1
  obtain ⟨j, hj, ej⟩ := List.getElem_of_mem h2
  have nd : (hs.map (·.1)).Nodup := asc.imp fun h e => by rw [e] at h; omega
  have : (hs.map (·.1))[i]? = (hs.map (·.1))[j]? := by
    rw [List.getElem?_map, List.getElem?_map, List.getElem?_eq_getElem hi, List.getElem?_eq_getElem hj, ei, ej]
    rfl
  have := (List.getElem?_inj (by rw [List.length_map]; exact hi) nd).mp this
  subst this
  rw [ei] at ej
  exact congrArg Prod.snd ej
theorem take_pre {hs : List (Int × Wd)} {m : Int} {t : Wd} (h : (m, t) ∈ hs) (k : Nat) : LC (txs hs) (t.take k) := .inl ⟨t, txs_mem h, t.drop k, (List.take_append_drop k t).symm⟩
section
variable {hs : List (Int × Wd)} {g : G} {rep : Nat → Wd} (asc : (hs.map (·.1)).Pairwise (· < ·)) (F : Fin (txs hs) g rep)
include asc F
theorem plc_tree {k : Nat} (hk : k < g.n) (q : Int × Nat) : q ∈ plc hs (rep k) ↔ dirP hs (rep k) q ∨ ∃ j, j < g.n ∧ g.lk j = some k ∧ q ∈ plc hs (rep j) := by
  obtain ⟨m, st⟩ := q
  constructor
  · intro h
    obtain ⟨t, ht, hst, s⟩ := mem_plc.mp h
    by_cases e : rep k = t.take st
    · exact .inl ⟨t, ht, hst, e.symm⟩
    · right
      obtain ⟨a, ha⟩ := suf_cons s e
      have hx := take_pre ht st
      obtain ⟨v, hv⟩ := (hx.inner.suf ha).ext
      obtain ⟨j, hj, ej⟩ := (F.inv.lc v).mp hv.1
      subst ej
      obtain ⟨x, ex⟩ := ha
      obtain ⟨x', ex'⟩ := hv.occ (txs_mem ht) (x := x) (y := t.drop st) (by rw [ex, List.take_append_drop])
      have sv : rep j <:+ t.take st := ⟨x', (List.append_inj' (show t.take st ++ t.drop st = (x' ++ rep j) ++ t.drop st by rw [List.take_append_drop]; exact ex') rfl).1.symm⟩
      refine ⟨j, hj, (F.inv.lk j hj k).mpr ⟨hk, F.inv.mem hk, List.IsSuffix.trans ⟨[a], rfl⟩ hv.2.1, fun z => ?_, fun y ly h1 h2 => ?_⟩, mem_plc.mpr ⟨t, ht, hst, sv⟩⟩
      · have := hv.2.1.length_le
        rw [← z, List.length_cons] at this
        omega
      · rcases suf_tot h1 hv.2.1 with c | c
        · rcases List.suffix_cons_iff.mp c with z | c
          · exact absurd (hv.2.2 y ly (z ▸ List.suffix_refl _) h1) h2
          · exact c
        · exact absurd (hv.2.2 y ly c h1) h2
  · rintro (⟨t, ht, hst, e⟩ | ⟨j, hj, ej, h⟩)
    · exact mem_plc.mpr ⟨t, ht, hst, e ▸ List.suffix_refl _⟩
    · obtain ⟨t, ht, hst, s⟩ := mem_plc.mp h
      exact mem_plc.mpr ⟨t, ht, hst, (F.inv.dec hj ej).2.2.1.trans s⟩
theorem Row.full {i k : Nat} {r : List (Int × Nat)} (R : Row hs g rep i k r) (hk : k < g.n) (hi : i ≤ k + 1) (q : Int × Nat) : q ∈ r ↔ q ∈ plc hs (rep k) := by
  rw [R.mem, plc_tree asc F hk]
  constructor
  · rintro (h | ⟨j, _, h⟩)
    · exact .inl h
    · exact .inr ⟨j, h⟩
  · rintro (h | ⟨j, hj, e, h⟩)
    · exact .inl h
    · have := F.lk_lt hj e
      exact .inr ⟨j, by omega, hj, e, h⟩
theorem Row.stay {i k : Nat} {r : List (Int × Nat)} (R : Row hs g rep (i + 1) k r) (h : g.lk i ≠ some k) : Row hs g rep i k r := by
  refine ⟨R.nd, fun q => ?_⟩
  rw [R.mem]
  constructor
  · rintro (h | ⟨j, hj, h⟩)
    · exact .inl h
    · exact .inr ⟨j, by omega, h⟩
  · rintro (h1 | ⟨j, hj, h1, h2, h3⟩)
    · exact .inl h1
    · by_cases e : j = i
      · exact absurd (e ▸ h2) h
      · exact .inr ⟨j, by omega, h1, h2, h3⟩
theorem Row.step {i k : Nat} {r s : List (Int × Nat)} (R : Row hs g rep (i + 1) k r) (S : Row hs g rep (i + 1) i s) (hi : i < g.n) (e : g.lk i = some k) : Row hs g rep i k (r ++ s) := by
  have ms := S.full asc F hi (Nat.le_refl _)
  refine ⟨?_, fun q => ?_⟩
  · rw [List.nodup_append]
    refine ⟨R.nd, S.nd, fun a ha b hb z => ?_⟩
    subst z
    obtain ⟨m, st⟩ := a
    have h1 := (ms _).mp hb
    obtain ⟨t, ht, hst, s1⟩ := mem_plc.mp h1
    obtain ⟨hk, hz, sk, nk⟩ := F.inv.dec hi e
    rcases (R.mem _).mp ha with ⟨t', ht', _, e'⟩ | ⟨j, hj, hjn, ej, h2⟩
    · have := uniq_text asc ht ht'
      subst this
      have e' : t.take st = rep k := e'
      rw [e'] at s1
      exact nk (suf_antisymm sk s1)
    · obtain ⟨t', ht', _, s2⟩ := mem_plc.mp h2
      have := uniq_text asc ht ht'
      subst this
      have l1 := ((F.inv.lk i hi k).mp e).2
      have l2 := ((F.inv.lk j hjn k).mp ej).2
      have ne : rep i ≠ rep j := fun z => by have := F.inv.inj i j hi hjn z; omega
      rcases suf_tot s1 s2 with c | c
      · have h3 := l2.2.2.2 _ (F.inv.mem hi) c ne
        exact nk (suf_antisymm sk h3)
      · have h3 := l1.2.2.2 _ (F.inv.mem hjn) c (Ne.symm ne)
        exact l2.2.2.1 (suf_antisymm l2.2.1 h3)
  · rw [List.mem_append, R.mem, ms]
    constructor
    · rintro ((h | ⟨j, hj, h⟩) | h)
      · exact .inl h
      · exact .inr ⟨j, by omega, h⟩
      · exact .inr ⟨i, Nat.le_refl _, hi, e, h⟩
    · rintro (h1 | ⟨j, hj, h1, h2, h3⟩)
      · exact .inl (.inl h1)
      · by_cases z : j = i
        · exact .inr (z ▸ h3)
        · exact .inl (.inr ⟨j, by omega, h1, h2, h3⟩)
omit asc in
theorem Fin.lk_some {i : Nat} (hi : i < g.n) (h0 : i ≠ 0) : ∃ k, g.lk i = some k ∧ k < i := by
  cases e : g.lk i with
  | none => exact absurd (F.inv.inj i 0 hi F.inv.n0 ((F.inv.lk_none hi e).trans F.inv.r0.symm)) h0
  | some k => exact ⟨k, rfl, F.lk_lt hi e⟩
end
/-! classes, word by word -/
structure Cls (hs : List (Int × Wd)) (g : G) (rep : Nat → Wd) (W : List Wd) (m : Nat) (rows : List (Wd × Wd × List (Int × Nat))) : Prop where
  le : rows.length ≤ g.n
  cut : ∀ k, k < g.n → (k < rows.length ↔ mw g rep k ∈ W.take m)
  row : ∀ k, k < rows.length → ∃ lw, rows[k]? = some (mw g rep k, lw, plc hs (rep k)) ∧ Ext (LC (txs hs)) lw (rep k) ∧ lw ∈ W.take m ∧ ∀ w, w ∈ W.take m → Ext (LC (txs hs)) w (rep k) → w <:+ lw
section
variable {hs : List (Int × Wd)} {g : G} {rep : Nat → Wd} {W : List Wd} (ne : hs ≠ []) (asc : (hs.map (·.1)).Pairwise (· < ·)) (F : Fin (txs hs) g rep) (sW : W.Pairwise slx) (mW : ∀ w, w ∈ W ↔ Inner (txs hs) w)
include ne asc F sW mW
omit ne asc sW mW in
theorem cls_start : Cls hs g rep W 0 [] := ⟨Nat.zero_le _, fun k _ => by simp, fun k h => absurd h (Nat.not_lt_zero _)⟩
omit sW mW in
/-- the places of a word tell its class -/
theorem plc_cls {u : Wd} {j k : Nat} (hj : j < g.n) (hk : k < g.n) (h : Ext (LC (txs hs)) u (rep k)) : plc hs (rep j) = plc hs u ↔ j = k := by
  rw [plc_ext h]
  exact ⟨fun e => F.inv.inj j k hj hk (plc_inj ne asc (F.inv.mem hj) (F.inv.mem hk) e), fun e => e ▸ rfl⟩
theorem Cls.step {m : Nat} {rows : List (Wd × Wd × List (Int × Nat))} (C : Cls hs g rep W m rows) {w : Wd} (hw : W[m]? = some w) :
    ∃ k, k < g.n ∧ Ext (LC (txs hs)) w (rep k) ∧ (k < rows.length → Cls hs g rep W (m + 1) (rows.set k (mw g rep k, w, plc hs w))) ∧ (¬ k < rows.length → k = rows.length ∧ mw g rep k = w ∧ Cls hs g rep W (m + 1) (rows ++ [(w, w, plc hs w)])) := by
  obtain ⟨hm, em⟩ := List.getElem?_eq_some_iff.mp hw
  have wm : w ∈ W := List.mem_of_getElem? hw
  obtain ⟨v, hv⟩ := ((mW w).mp wm).ext
  obtain ⟨k, hk, ek⟩ := (F.inv.lc v).mp hv.1
  subst ek
  have tk : W.take (m + 1) = W.take m ++ [w] := by rw [List.take_add_one, hw]; rfl
  have before : ∀ x, x ∈ W → slx x w → x ∈ W.take m := fun x hx h => by
    obtain ⟨i, hi, ei⟩ := List.getElem_of_mem hx
    have : i < m := by
      refine Classical.byContradiction fun n => ?_
      by_cases z : i = m
      · subst z
        rw [← ei, ← em] at h
        exact slx_irr h
      · have := List.pairwise_iff_getElem.mp sW m i hm hi (by omega)
        rw [ei, em] at this
        exact slx_irr (slx_trans h this)
    exact List.mem_take_iff_getElem.mpr ⟨i, by omega, ei⟩
  have after_ : ∀ x, x ∈ W.take m → slx x w := fun x hx => by
    obtain ⟨i, hi, ei⟩ := List.mem_take_iff_getElem.mp hx
    have := List.pairwise_iff_getElem.mp sW i m (by omega) hm (by omega)
    rwa [ei, em] at this
  have mwW : ∀ j, j < g.n → mw g rep j ∈ W := fun j hj => (mW _).mpr (F.inv.mw_ext hj).inner
  have mw_le := F.inv.mw_le hk hv
  have mw_new : ∀ j, j < g.n → (mw g rep j = w ↔ j = k ∧ mw g rep k = w) := fun j hj => by
    constructor
    · intro e
      have h1 := F.inv.mw_ext hj
      rw [e] at h1
      have := F.inv.inj j k hj hk (h1.uniq hv)
      exact ⟨this, this ▸ e⟩
    · rintro ⟨rfl, e⟩
      exact e
  refine ⟨k, hk, hv, fun hlt => ?_, fun hge => ?_⟩
  · have in_ := (C.cut k hk).mp hlt
    have mne : mw g rep k ≠ w := fun e => slx_irr (e ▸ after_ _ in_)
    refine ⟨by rw [List.length_set]; exact C.le, fun j hj => ?_, fun j hj => ?_⟩
    · rw [List.length_set, tk, List.mem_append, List.mem_singleton, C.cut j hj]
      exact ⟨.inl, fun h => h.elim id fun e => absurd ((mw_new j hj).mp e).2 mne⟩
    · rw [List.length_set] at hj
      have hjn : j < g.n := by have := C.le; omega
      by_cases e : j = k
      · subst e
        refine ⟨w, ?_, hv, by rw [tk]; simp, fun x hx ex => ?_⟩
        · rw [List.getElem?_set_self hj, plc_ext hv]
        · rw [tk] at hx
          rcases List.mem_append.mp hx with h | h
          · rcases suf_tot ex.2.1 hv.2.1 with c | c
            · exact c
            · have h1 := c.length_le
              rcases after_ x h with q | ⟨q, _⟩
              · omega
              · exact (c.eq_of_length q.symm) ▸ List.suffix_refl _
          · rw [List.mem_singleton.mp h]
            exact List.suffix_refl _
      · obtain ⟨lw, h1, h2, h3, h4⟩ := C.row j hj
        refine ⟨lw, by rw [List.getElem?_set_ne (Ne.symm e)]; exact h1, h2, by rw [tk]; exact List.mem_append_left _ h3, fun x hx ex => ?_⟩
        rw [tk] at hx
        rcases List.mem_append.mp hx with h | h
        · exact h4 x h ex
        · rw [List.mem_singleton.mp h] at ex
          exact absurd (F.inv.inj j k hjn hk (ex.uniq hv)) e
  · have nin : mw g rep k ∉ W.take m := fun h => hge ((C.cut k hk).mpr h)
    have e : mw g rep k = w := by
      refine Classical.byContradiction fun n => nin (before _ (mwW k hk) (.inl ?_))
      refine Nat.lt_of_le_of_ne mw_le.length_le fun z => n (mw_le.eq_of_length z)
    have len : k = rows.length := by
      rcases Nat.lt_trichotomy k rows.length with h | h | h
      · exact absurd h hge
      · exact h
      · have h2 := F.so rows.length k h hk
        have hr : rows.length < g.n := by omega
        rw [e] at h2
        have := (C.cut rows.length hr).mpr (before _ (mwW _ hr) h2)
        omega
    refine ⟨len, e, by rw [List.length_append]; show rows.length + 1 ≤ g.n; omega, fun j hj => ?_, fun j hj => ?_⟩
    · rw [List.length_append, tk, List.mem_append, List.mem_singleton, ← C.cut j hj, mw_new j hj]
      show j < rows.length + 1 ↔ _
      constructor
      · intro h
        by_cases z : j < rows.length
        · exact .inl z
        · exact .inr ⟨by omega, e⟩
      · rintro (h | ⟨h, _⟩) <;> omega
    · rw [List.length_append] at hj
      have hj2 : j < rows.length + 1 := hj
      by_cases z : j < rows.length
      · obtain ⟨lw, h1, h2, h3, h4⟩ := C.row j z
        have hjn : j < g.n := by omega
        refine ⟨lw, by rw [List.getElem?_append_left z]; exact h1, h2, by rw [tk]; exact List.mem_append_left _ h3, fun x hx ex => ?_⟩
        rw [tk] at hx
        rcases List.mem_append.mp hx with h | h
        · exact h4 x h ex
        · rw [List.mem_singleton.mp h] at ex
          have := F.inv.inj j k hjn hk (ex.uniq hv)
          omega
      · have jk : j = k := by omega
        subst jk
        refine ⟨w, ?_, hv, by rw [tk]; simp, fun x hx ex => ?_⟩
        · rw [List.getElem?_append_right (by omega), len]
          have : rows.length - rows.length = 0 := by omega
          rw [this, ← len, e, plc_ext hv]
          rfl
        · rw [tk] at hx
          rcases List.mem_append.mp hx with h | h
          · have := F.inv.mw_le hk ex
            rw [e] at this
            rcases after_ x h with q | ⟨q, _⟩
            · have := this.length_le; omega
            · exact (this.eq_of_length q.symm) ▸ List.suffix_refl _
          · rw [List.mem_singleton.mp h]
            exact List.suffix_refl _
/-- all words gone through -/
theorem Cls.done {rows : List (Wd × Wd × List (Int × Nat))} (C : Cls hs g rep W W.length rows) : rows = (List.range g.n).map fun k => (mw g rep k, rep k, plc hs (rep k)) := by
  have tk : W.take W.length = W := List.take_length
  have len : rows.length = g.n := by
    refine Nat.le_antisymm C.le ?_
    refine Classical.byContradiction fun n => ?_
    have h : rows.length < g.n := by omega
    have := (C.cut rows.length h).mpr (by rw [tk]; exact (mW _).mpr (F.inv.mw_ext h).inner)
    omega
  refine List.ext_getElem? fun k => ?_
  by_cases hk : k < g.n
  · obtain ⟨lw, h1, h2, h3, h4⟩ := C.row k (by omega)
    have := h4 (rep k) (by rw [tk]; exact (mW _).mpr (F.inv.mem hk).inner) (.self (F.inv.mem hk))
    have e := suf_antisymm this h2.2.1
    rw [h1, ← e, List.getElem?_map, List.getElem?_range hk]
    rfl
  · rw [List.getElem?_eq_none (by omega), List.getElem?_eq_none (by rw [List.length_map, List.length_range]; omega)]
end
/-- the link, found by the words -/
theorem Fin.link_word {D : List Wd} {g : G} {rep : Nat → Wd} (F : Fin D g rep) {i k : Nat} (hi : i < g.n) (e : g.lk i = some k) : (mw g rep i).drop 1 = rep k := by
  obtain ⟨hk, hz, s, n⟩ := F.inv.dec hi e
  have hl := F.inv.mw_len hi
  have h2 : leastSz g i = g.sz k + 1 := by unfold leastSz; rw [e]
  have h3 := F.inv.sz k hk
  have s1 : (mw g rep i).drop 1 <:+ rep i := (List.drop_suffix _ _).trans (List.drop_suffix _ _)
  have h4 : ((mw g rep i).drop 1).length = (rep k).length := by rw [List.length_drop]; omega
  exact (suf_of s1 s (by omega)).eq_of_length h4
end Sam
set_option Elab.async false
set_option linter.all false
set_option maxRecDepth 100000
set_option maxHeartbeats 4000000
/-! the classes of a house as objects: a dict of letters for each, lists of sizes and links -/
namespace SH
open PySem PySem.Spec PyProof.Rows L2
def chr1 (c : Nat) : Str := ⟨#[c]⟩
theorem chr1_inj {c d : Nat} (h : chr1 c = chr1 d) : c = d := by
  have := congrArg (fun z : Str => z.cps.toList) h
  simpa [chr1] using this
def lkey (c : Nat) : Key := .inr (chr1 c)
theorem lkey_inj {c d : Nat} (h : lkey c = lkey d) : c = d := chr1_inj (Sum.inr.inj h)
def optN : Option Nat → V
  | none => .non
  | some j => .int (j : Int)
theorem optN_inj {a b : Option Nat} (h : optN a = optN b) : a = b := by
  cases a <;> cases b
  · rfl
  · cases h
  · cases h
  · have : (Int.ofNat _ = Int.ofNat _) := V.int.inj h
    rw [Int.ofNat.inj this]
/-- a dict of letters -/
structure DRep (kvs : List (Key × V)) (f : Nat → Option Nat) : Prop where
  nd : (kvs.map (·.1)).Nodup
  ks : ∀ x ∈ kvs, ∃ c, c < 127 ∧ x.1 = lkey c
  vs : ∀ c, valV kvs (lkey c) = (f c).map fun j => V.int (j : Int)
theorem DRep.nil : DRep [] (fun _ => none) := ⟨List.Pairwise.nil, (fun x h => nomatch h), fun _ => rfl⟩
theorem nd_put {kvs : List (Key × V)} (h : (kvs.map (·.1)).Nodup) (k : Key) (v : V) : ((putK kvs k v).map (·.1)).Nodup := by
  cases e : valV kvs k with
  | none => exact nd_putK v h e
  | some u =>
    have : (kvs.any fun kv => decide (kv.1 = k)) = true := by rw [valV_any, e]; rfl
    unfold putK
    rw [if_pos this, List.map_map]
    have : ((·.1) ∘ fun kv : Key × V => if kv.1 = k then (kv.1, v) else kv) = (·.1) := by
      funext x
      show (if x.1 = k then (x.1, v) else x).1 = x.1
      split <;> rfl
    rw [this]
    exact h
theorem ks_put {kvs : List (Key × V)} {p : Key → Prop} (h : ∀ x ∈ kvs, p x.1) {k : Key} (hk : p k) (v : V) : ∀ x ∈ putK kvs k v, p x.1 := by
  intro x hx
  unfold putK at hx
  split at hx
  · obtain ⟨y, hy, rfl⟩ := List.mem_map.mp hx
    split
    · exact h y hy
    · exact h y hy
  · rcases List.mem_append.mp hx with m | m
    · exact h x m
    · rw [List.mem_singleton.mp m]; exact hk
theorem DRep.put {kvs : List (Key × V)} {f : Nat → Option Nat} (h : DRep kvs f) {c : Nat} (hc : c < 127) (j : Nat) : DRep (putK kvs (lkey c) (.int (j : Int))) (fun d => if d = c then some j else f d) := by
  refine ⟨nd_put h.nd _ _, ks_put (p := fun k => ∃ c, c < 127 ∧ k = lkey c) h.ks ⟨c, hc, rfl⟩ _, fun d => ?_⟩
  rw [valV_put]
  by_cases e : d = c
  · rw [if_pos (by rw [e]), if_pos e]
    rfl
  · rw [if_neg (fun z => e (lkey_inj z)), if_neg e]
    exact h.vs d
theorem DRep.congr {kvs : List (Key × V)} {f f' : Nat → Option Nat} (h : DRep kvs f) (e : ∀ c, f c = f' c) : DRep kvs f' := ⟨h.nd, h.ks, fun c => by rw [h.vs c, e c]⟩
theorem DRep.len {kvs : List (Key × V)} {f : Nat → Option Nat} (h : DRep kvs f) : kvs.length ≤ 127 := by
  have key : ∀ l : List (Key × V), (l.map (·.1)).Nodup → (∀ x ∈ l, ∃ c, c < 127 ∧ x.1 = lkey c) → ∃ cs : List Nat, l.map (·.1) = cs.map lkey ∧ ∀ c ∈ cs, c < 127 := by
    intro l
    induction l with
    | nil => exact fun _ _ => ⟨[], rfl, fun c h => nomatch h⟩
    | cons x r ih =>
      intro nd hk
      rw [List.map_cons] at nd
      obtain ⟨cs, e, h1⟩ := ih (List.nodup_cons.mp nd).2 fun y m => hk y (List.mem_cons_of_mem _ m)
      obtain ⟨c, hc, e2⟩ := hk x (List.mem_cons_self ..)
      refine ⟨c :: cs, by rw [List.map_cons, List.map_cons, e, e2], fun d hd => ?_⟩
      rcases List.mem_cons.mp hd with z | z
      · rw [z]; exact hc
      · exact h1 d z
  obtain ⟨cs, e, h1⟩ := key kvs h.nd h.ks
  have nd : cs.Nodup := by
    have := h.nd
    rw [e] at this
    exact List.Pairwise.of_map lkey (fun a b n z => n (by rw [z])) this
  have := Sam.nd_len 127 cs nd h1
  have e2 := congrArg List.length e
  rw [List.length_map, List.length_map] at e2
  omega
/-- letters, rising -/
theorem DRep.keys {kvs : List (Key × V)} {f : Nat → Option Nat} (h : DRep kvs f) : ∃ cs : List Nat, kvs.map (·.1) = (cs.map chr1).map Sum.inr ∧ cs.Nodup ∧ (∀ c, c ∈ cs ↔ ∃ j, f c = some j) ∧ ∀ c ∈ cs, c < 127 := by
  have key : ∀ l : List (Key × V), (∀ x ∈ l, ∃ c, c < 127 ∧ x.1 = lkey c) → ∃ cs : List Nat, l.map (·.1) = cs.map lkey ∧ ∀ c ∈ cs, c < 127 := by
    intro l
    induction l with
    | nil => exact fun _ => ⟨[], rfl, fun c h => nomatch h⟩
    | cons x r ih =>
      intro hk
      obtain ⟨cs, e, h1⟩ := ih fun y m => hk y (List.mem_cons_of_mem _ m)
      obtain ⟨c, hc, e2⟩ := hk x (List.mem_cons_self ..)
      refine ⟨c :: cs, by rw [List.map_cons, List.map_cons, e, e2], fun d hd => ?_⟩
      rcases List.mem_cons.mp hd with z | z
      · rw [z]; exact hc
      · exact h1 d z
  obtain ⟨cs, e, h1⟩ := key kvs h.ks
  have nd : cs.Nodup := by
    have := h.nd
    rw [e] at this
    exact List.Pairwise.of_map lkey (fun a b n z => n (by rw [z])) this
  refine ⟨cs, by rw [e, List.map_map]; rfl, nd, fun c => ?_, h1⟩
  have hv := h.vs c
  constructor
  · intro m
    cases e2 : f c with
    | some j => exact ⟨j, rfl⟩
    | none =>
      rw [e2] at hv
      have : lkey c ∈ kvs.map (·.1) := by rw [e]; exact List.mem_map_of_mem m
      exact absurd this (valV_not hv)
  · rintro ⟨j, ej⟩
    rw [ej] at hv
    have := valV_in hv
    rw [e] at this
    obtain ⟨d, hd, ed⟩ := List.mem_map.mp this
    exact lkey_inj ed ▸ hd
/-! ### the object -/
structure Ad where
  dx : Addr
  E : Addr
  S : Addr
  L : Addr
  W : Addr
  ds : List Addr
def flds (a : Ad) : List (Str × V) := [("edges", .ref a.E), ("sizes", .ref a.S), ("links", .ref a.L), ("ways", .ref a.W)]
def sizesOf (g : Sam.G) : List V := (List.range g.n).map fun i => .int (g.sz i : Int)
def linksOf (g : Sam.G) : List V := (List.range g.n).map fun i => optN (g.lk i)
structure GrAt (C : Addr) (H0 H : Hp) (p : Addr) (g : Sam.G) (a : Ad) (ws : List V) : Prop where
  sm : Same H0 H
  hp : H p = some (.ins C a.dx (flds a))
  hE : H a.E = some (.lst (a.ds.map V.ref))
  hS : H a.S = some (.lst (sizesOf g))
  hL : H a.L = some (.lst (linksOf g))
  hW : H a.W = some (.lst ws)
  ln : a.ds.length = g.n
  hd : ∀ i d, a.ds[i]? = some d → ∃ kvs, H d = some (.dK kvs) ∧ DRep kvs (g.ed i)
  np : H0 p = none
  nE : H0 a.E = none
  nS : H0 a.S = none
  nL : H0 a.L = none
  nW : H0 a.W = none
  nD : ∀ d ∈ a.ds, H0 d = none
  ES : a.E ≠ a.S
  EL : a.E ≠ a.L
  EW : a.E ≠ a.W
  SL : a.S ≠ a.L
  SW : a.S ≠ a.W
  LW : a.L ≠ a.W
  dd : a.ds.Nodup
theorem sizes_len (g : Sam.G) : (sizesOf g).length = g.n := by unfold sizesOf; rw [List.length_map, List.length_range]
theorem links_len (g : Sam.G) : (linksOf g).length = g.n := by unfold linksOf; rw [List.length_map, List.length_range]
theorem sizes_at {g : Sam.G} {i : Nat} (h : i < g.n) : atI (sizesOf g) (i : Int) = some (.int (g.sz i : Int)) := by
  refine atI_nat ?_
  unfold sizesOf
  rw [List.getElem?_map, List.getElem?_range h]
  rfl
theorem links_at {g : Sam.G} {i : Nat} (h : i < g.n) : atI (linksOf g) (i : Int) = some (optN (g.lk i)) := by
  refine atI_nat ?_
  unfold linksOf
  rw [List.getElem?_map, List.getElem?_range h]
  rfl
section
variable {C : Addr} {H0 H : Hp} {p : Addr} {g : Sam.G} {a : Ad} {ws : List V}
theorem GrAt.ed_at (G : GrAt C H0 H p g a ws) {i : Nat} (h : i < g.n) : ∃ d kvs, d ∈ a.ds ∧ a.ds[i]? = some d ∧ atI (a.ds.map V.ref) (i : Int) = some (.ref d) ∧ H d = some (.dK kvs) ∧ DRep kvs (g.ed i) := by
  have hi : i < a.ds.length := by rw [G.ln]; exact h
  have e : a.ds[i]? = some a.ds[i] := List.getElem?_eq_getElem hi
  obtain ⟨kvs, h1, h2⟩ := G.hd i _ e
  exact ⟨_, kvs, List.getElem_mem hi, e, atI_nat (by rw [List.getElem?_map, e]; rfl), h1, h2⟩
/-- what is written new stays apart -/
theorem GrAt.keep (G : GrAt C H0 H p g a ws) {H' : Hp} (s : Same H H') : GrAt C H0 H' p g a ws :=
  { sm := G.sm.trans s, hp := s _ _ G.hp, hE := s _ _ G.hE, hS := s _ _ G.hS, hL := s _ _ G.hL, hW := s _ _ G.hW, ln := G.ln,
    hd := fun i d e => by obtain ⟨kvs, h1, h2⟩ := G.hd i d e; exact ⟨kvs, s _ _ h1, h2⟩, np := G.np, nE := G.nE, nS := G.nS, nL := G.nL, nW := G.nW, nD := G.nD, ES := G.ES, EL := G.EL, EW := G.EW, SL := G.SL, SW := G.SW, LW := G.LW, dd := G.dd }
theorem GrAt.pL (G : GrAt C H0 H p g a ws) : p ≠ a.E ∧ p ≠ a.S ∧ p ≠ a.L ∧ p ≠ a.W := by
  refine ⟨fun z => ?_, fun z => ?_, fun z => ?_, fun z => ?_⟩ <;> (have := G.hp; rw [z] at this)
  · rw [G.hE] at this; cases this
  · rw [G.hS] at this; cases this
  · rw [G.hL] at this; cases this
  · rw [G.hW] at this; cases this
theorem GrAt.dne (G : GrAt C H0 H p g a ws) {d : Addr} (hd : d ∈ a.ds) : d ≠ p ∧ d ≠ a.E ∧ d ≠ a.S ∧ d ≠ a.L ∧ d ≠ a.W := by
  obtain ⟨i, hi, e⟩ := List.getElem_of_mem hd
  obtain ⟨kvs, h1, _⟩ := G.hd i d (by rw [List.getElem?_eq_getElem hi, e])
  refine ⟨fun z => ?_, fun z => ?_, fun z => ?_, fun z => ?_, fun z => ?_⟩ <;> rw [z] at h1
  · rw [G.hp] at h1; cases h1
  · rw [G.hE] at h1; cases h1
  · rw [G.hS] at h1; cases h1
  · rw [G.hL] at h1; cases h1
  · rw [G.hW] at h1; cases h1
/-- another heap ahead -/
theorem GrAt.frame (G : GrAt C H0 H p g a ws) {H1 : Hp} (s : Same H1 H) (h : ∀ b, H1 b ≠ none → H0 b ≠ none ∨ (b ≠ p ∧ b ≠ a.E ∧ b ≠ a.S ∧ b ≠ a.L ∧ b ≠ a.W ∧ b ∉ a.ds)) : GrAt C H1 H p g a ws := by
  have no : ∀ b, H0 b = none → (b = p ∨ b = a.E ∨ b = a.S ∨ b = a.L ∨ b = a.W ∨ b ∈ a.ds) → H1 b = none := fun b hb ho => Classical.byContradiction fun n => by
    rcases h b n with k | ⟨k1, k2, k3, k4, k5, k6⟩
    · exact k hb
    · rcases ho with z | z | z | z | z | z
      · exact k1 z
      · exact k2 z
      · exact k3 z
      · exact k4 z
      · exact k5 z
      · exact k6 z
  exact { G with sm := s, np := no _ G.np (.inl rfl), nE := no _ G.nE (.inr (.inl rfl)), nS := no _ G.nS (.inr (.inr (.inl rfl))), nL := no _ G.nL (.inr (.inr (.inr (.inl rfl)))), nW := no _ G.nW (.inr (.inr (.inr (.inr (.inl rfl))))), nD := fun d hd => no _ (G.nD d hd) (.inr (.inr (.inr (.inr (.inr hd))))) }
/-- one edge set -/
theorem GrAt.put (G : GrAt C H0 H p g a ws) {i : Nat} {d : Addr} {kvs : List (Key × V)} (e : a.ds[i]? = some d) (h : H d = some (.dK kvs)) {c : Nat} (hc : c < 127) (j : Nat) :
    GrAt C H0 (upd H d (.dK (putK kvs (lkey c) (.int (j : Int))))) p (Sam.setEd g c j [i]) a ws := by
  have hm : d ∈ a.ds := List.mem_of_getElem? e
  obtain ⟨n1, n2, n3, n4, n5⟩ := G.dne hm
  have hi := (List.getElem?_eq_some_iff.mp e).1
  refine { sm := same_mut G.sm (G.nD d hm), hp := by rw [upd_ne n1.symm]; exact G.hp, hE := by rw [upd_ne n2.symm]; exact G.hE, hS := by rw [upd_ne n3.symm]; exact G.hS, hL := by rw [upd_ne n4.symm]; exact G.hL, hW := by rw [upd_ne n5.symm]; exact G.hW, ln := G.ln, hd := fun i' d' e' => ?_, np := G.np, nE := G.nE, nS := G.nS, nL := G.nL, nW := G.nW, nD := G.nD, ES := G.ES, EL := G.EL, EW := G.EW, SL := G.SL, SW := G.SW, LW := G.LW, dd := G.dd }
  obtain ⟨kvs', h1, h2⟩ := G.hd i' d' e'
  by_cases z : i' = i
  · subst z
    rw [e] at e'
    cases e'
    rw [h] at h1
    cases h1
    refine ⟨_, upd_same, (h2.put hc j).congr fun c' => ?_⟩
    show _ = if c' = c ∧ i' ∈ [i'] then some j else g.ed i' c'
    by_cases y : c' = c
    · rw [if_pos y, if_pos ⟨y, by simp⟩]
    · rw [if_neg y, if_neg fun q => y q.1]
  · have dn : d' ≠ d := fun q => by
      rw [q] at e'
      exact z ((List.getElem?_inj hi G.dd).mp (e.trans e'.symm)).symm
    refine ⟨kvs', by rw [upd_ne dn]; exact h1, h2.congr fun c' => ?_⟩
    show _ = if c' = c ∧ i' ∈ [i] then some j else g.ed i' c'
    rw [if_neg fun q => z (by simpa using q.2)]
/-- one link set -/
theorem GrAt.link (G : GrAt C H0 H p g a ws) {i : Nat} (hi : i < g.n) (t : Option Nat) : GrAt C H0 (upd H a.L (.lst ((linksOf g).set i (optN t)))) p (Sam.setLk g i t) a ws := by
  obtain ⟨q1, q2, q3, q4⟩ := G.pL
  refine { sm := same_mut G.sm G.nL, hp := by rw [upd_ne q3]; exact G.hp, hE := by rw [upd_ne G.EL]; exact G.hE, hS := by rw [upd_ne G.SL]; exact G.hS, hL := ?_, hW := by rw [upd_ne G.LW.symm]; exact G.hW, ln := G.ln, hd := fun i' d' e' => ?_, np := G.np, nE := G.nE, nS := G.nS, nL := G.nL, nW := G.nW, nD := G.nD, ES := G.ES, EL := G.EL, EW := G.EW, SL := G.SL, SW := G.SW, LW := G.LW, dd := G.dd }
  · rw [upd_same]
    refine congrArg (fun x => some (HO.lst x)) (List.ext_getElem? fun k => ?_)
    show ((linksOf g).set i (optN t))[k]? = ((List.range g.n).map fun k => optN (Sam.up1 g.lk i t k))[k]?
    by_cases z : i = k
    · subst z
      rw [List.getElem?_set_self (by rw [links_len]; exact hi), List.getElem?_map, List.getElem?_range hi]
      show _ = some (optN (Sam.up1 g.lk i t i))
      rw [Sam.up1_same]
    · rw [List.getElem?_set_ne z]
      unfold linksOf
      rw [List.getElem?_map, List.getElem?_map]
      by_cases hk : k < g.n
      · rw [List.getElem?_range hk]
        show _ = some (optN (Sam.up1 g.lk i t k))
        rw [Sam.up1_ne (Ne.symm z)]
        rfl
      · rw [List.getElem?_eq_none (by rw [List.length_range]; omega)]
        rfl
  · obtain ⟨kvs, h1, h2⟩ := G.hd i' d' e'
    have := (G.dne (List.mem_of_getElem? e')).2.2.2.1
    exact ⟨kvs, by rw [upd_ne this]; exact h1, h2⟩
end
end SH
set_option Elab.async false
set_option linter.all false
set_option maxRecDepth 100000
set_option maxHeartbeats 4000000
namespace SH
open PySem PySem.Spec PyProof.Rows L2
section
variable {P : Program} {w : World} {K : PySem.W.Frag} {mg : Str → Option Value} {base : Heap} {ea : Ea}
theorem sz1000 {n : Nat} (h : n ≤ 2000) : n < sizeLine := Nat.lt_of_le_of_lt h (by decide)
theorem fl_edges (a : Ad) : (flds a).lookup ("edges" : Str) = some (.ref a.E) := rfl
theorem fl_sizes (a : Ad) : (flds a).lookup ("sizes" : Str) = some (.ref a.S) := rfl
theorem fl_links (a : Ad) : (flds a).lookup ("links" : Str) = some (.ref a.L) := rfl
theorem fl_ways (a : Ad) : (flds a).lookup ("ways" : Str) = some (.ref a.W) := rfl
/-- a class more -/
def spAdd (C : Addr) : Sp := fun vs H Q _ => ∃ (H0 : Hp) (p : Addr) (g : Sam.G) (a : Ad) (ws : List V) (size : Nat) (dE : Addr) (kvs : List (Key × V)) (f : Nat → Option Nat) (link : Option Nat),
  vs = [.ref p, .int (size : Int), .ref dE, optN link] ∧ GrAt C H0 H p g a ws ∧ H dE = some (.dK kvs) ∧ DRep kvs f ∧ g.n ≤ 1000 ∧
  ∀ H' d, GrAt C H0 H' p (Sam.addG g size f link) { a with ds := a.ds ++ [d] } ws → Q (.int (g.n : Int)) H'
theorem sc_Growth__add : FnScope ["self", "size", "edges", "link"] ["self", "size", "edges", "link"] (defScope s_Growth__add) := ⟨rfl, rfl, rfl, by decide +kernel, rfl, by decide +kernel, by decide +kernel⟩
theorem ok_Growth__add (T : Txt K mg ea) : C8.Met P w K mg base 1 ea.c_Growth "_add" (spAdd ea.c_Growth) [] := by
  have nd := sc_Growth__add.nd
  refine met_of T.d_Growth__add T.l_Growth sc_Growth__add (fun vs H Q E h => ?_) (fun f cdv A outer s H vs Q E hr h => ?_)
  · obtain ⟨H0, p, g, a, ws, size, dE, kvs, f, link, rfl, _⟩ := h
    rfl
  · obtain ⟨H0, p, g, a, ws, size, dE, kvs, f, link, rfl, G, hE, hf, hn, q⟩ := h
    refine ⟨_, (pss_cons (ps_expr (pe_bm PySem.F.plainAttrs_list PySem.F.slot_list_append PySem.F.type_list_append mt_append (pe_fldK (K := K) (pv 0) rfl) (pa_cons (pe_callTy call_dictD (by rfl) T.b_dict (by decide +kernel) (pa_cons (pv 2) pa_nil)) pa_nil)))
      (pss_cons (ps_expr (pe_bm PySem.F.plainAttrs_list PySem.F.slot_list_append PySem.F.type_list_append mt_append (pe_fldK (K := K) (pv 0) rfl) (pa_cons (pv 1) pa_nil)))
      (pss_cons (ps_expr (pe_bm PySem.F.plainAttrs_list PySem.F.slot_list_append PySem.F.type_list_append mt_append (pe_fldK (K := K) (pv 0) rfl) (pa_cons (pv 3) pa_nil)))
      (pss_one (ps_ret (pe_op op_sub (pe_callB call_len_seq (by rfl) T.b_len PySem.boot_len (pa_cons (pe_fldK (K := K) (pv 0) rfl) pa_nil)) pe_int)))))), ?_⟩
    obtain ⟨q1, q2, q3, q4⟩ := G.pL
    have ln := G.ln
    have ln2 : (a.ds.map V.ref).length = g.n := by rw [List.length_map]; exact ln
    refine ⟨_, rfl, p, _, _, _, _, rfl, G.hp, T.l_Growth, T.n_Growth_edges, fl_edges a, .inl ⟨rfl, _, SqL.of G.hE⟩, _, rfl, dE, kvs, rfl, .inl hE, fun d nd => ?_⟩
    have G1 := G.keep (same_new (o := .dK kvs) nd)
    generalize hH1 : upd H d (.dK kvs) = H1 at G1 ⊢
    have hd1 : H1 d = some (.dK kvs) := by rw [← hH1]; exact upd_same
    have dn : d ∉ a.ds := fun m => by
      obtain ⟨i, hi, e⟩ := List.getElem_of_mem m
      obtain ⟨k2, h1, _⟩ := G.hd i d (by rw [List.getElem?_eq_getElem hi, e])
      rw [nd] at h1
      cases h1
    have nd0 : H0 d = none := G.sm.free nd
    have dE1 : d ≠ a.E := fun z => by rw [z, G1.hE] at hd1; cases hd1
    have dS1 : d ≠ a.S := fun z => by rw [z, G1.hS] at hd1; cases hd1
    have dL1 : d ≠ a.L := fun z => by rw [z, G1.hL] at hd1; cases hd1
    refine ⟨a.E, _, _, rfl, rfl, G1.hE, sz1000 (by omega), ?_⟩
    -- sizes
    have hp2 : (upd H1 a.E (.lst (a.ds.map V.ref ++ [.ref d]))) p = some (.ins ea.c_Growth a.dx (flds a)) := by rw [upd_ne q1]; exact G1.hp
    have hS2 : (upd H1 a.E (.lst (a.ds.map V.ref ++ [.ref d]))) a.S = some (.lst (sizesOf g)) := by rw [upd_ne G.ES.symm]; exact G1.hS
    refine ⟨_, rfl, p, _, _, _, _, rfl, hp2, T.l_Growth, T.n_Growth_sizes, fl_sizes a, .inl ⟨rfl, _, SqL.of hS2⟩, _, rfl, a.S, _, _, rfl, rfl, hS2, sz1000 (by rw [sizes_len]; omega), ?_⟩
    -- links
    have hp3 : (upd (upd H1 a.E (.lst (a.ds.map V.ref ++ [.ref d]))) a.S (.lst (sizesOf g ++ [.int (size : Int)]))) p = some (.ins ea.c_Growth a.dx (flds a)) := by rw [upd_ne q2]; exact hp2
    have hL3 : (upd (upd H1 a.E (.lst (a.ds.map V.ref ++ [.ref d]))) a.S (.lst (sizesOf g ++ [.int (size : Int)]))) a.L = some (.lst (linksOf g)) := by rw [upd_ne G.SL.symm, upd_ne G.EL.symm]; exact G1.hL
    refine ⟨_, rfl, p, _, _, _, _, rfl, hp3, T.l_Growth, T.n_Growth_links, fl_links a, .inl ⟨rfl, _, SqL.of hL3⟩, _, rfl, a.L, _, _, rfl, rfl, hL3, sz1000 (by rw [links_len]; omega), ?_⟩
    -- the number
    have hp4 : (upd (upd (upd H1 a.E (.lst (a.ds.map V.ref ++ [.ref d]))) a.S (.lst (sizesOf g ++ [.int (size : Int)]))) a.L (.lst (linksOf g ++ [optN link]))) p = some (.ins ea.c_Growth a.dx (flds a)) := by rw [upd_ne q3]; exact hp3
    have hE4 : (upd (upd (upd H1 a.E (.lst (a.ds.map V.ref ++ [.ref d]))) a.S (.lst (sizesOf g ++ [.int (size : Int)]))) a.L (.lst (linksOf g ++ [optN link]))) a.E = some (.lst (a.ds.map V.ref ++ [.ref d])) := by rw [upd_ne G.EL, upd_ne G.ES, upd_same]
    refine ⟨_, rfl, p, _, _, _, _, rfl, hp4, T.l_Growth, T.n_Growth_edges, fl_edges a, a.E, _, rfl, .inl (SqL.of hE4), _, _, rfl, rfl, ?_⟩
    have e9 : ((a.ds.map V.ref ++ [V.ref d]).length : Int) - 1 = (g.n : Int) := by rw [List.length_append, List.length_map, ln]; show ((g.n + 1 : Nat) : Int) - 1 = _; omega
    show Q (.int (((a.ds.map V.ref ++ [V.ref d]).length : Int) - 1)) _
    rw [e9]
    refine q _ d { sm := same_mut (same_mut (same_mut G1.sm G.nE) G.nS) G.nL, hp := hp4, hE := by rw [hE4, List.map_append]; rfl, hS := ?_, hL := ?_, hW := ?_, ln := ?_, hd := fun i d' e => ?_, np := G.np, nE := G.nE, nS := G.nS, nL := G.nL, nW := G.nW, nD := fun d' m => ?_, ES := G.ES, EL := G.EL, EW := G.EW, SL := G.SL, SW := G.SW, LW := G.LW, dd := ?_ }
    · rw [upd_ne G.SL, upd_same]
      show some (HO.lst _) = some (HO.lst ((List.range (g.n + 1)).map fun i => V.int ((Sam.up1 g.sz g.n size i : Nat) : Int)))
      rw [List.range_succ, List.map_append]
      have e1 : (List.range g.n).map (fun i => V.int ((Sam.up1 g.sz g.n size i : Nat) : Int)) = sizesOf g := List.map_congr_left fun i hi => by rw [Sam.up1_ne (by have := List.mem_range.mp hi; omega)]
      rw [e1]
      show some (HO.lst (sizesOf g ++ [V.int (size : Int)])) = some (HO.lst (sizesOf g ++ [V.int ((Sam.up1 g.sz g.n size g.n : Nat) : Int)]))
      rw [Sam.up1_same]
    · rw [upd_same]
      show some (HO.lst _) = some (HO.lst ((List.range (g.n + 1)).map fun i => optN (Sam.up1 g.lk g.n link i)))
      rw [List.range_succ, List.map_append]
      have e1 : (List.range g.n).map (fun i => optN (Sam.up1 g.lk g.n link i)) = linksOf g := List.map_congr_left fun i hi => by rw [Sam.up1_ne (by have := List.mem_range.mp hi; omega)]
      rw [e1]
      show some (HO.lst (linksOf g ++ [optN link])) = some (HO.lst (linksOf g ++ [optN (Sam.up1 g.lk g.n link g.n)]))
      rw [Sam.up1_same]
    · show (upd (upd (upd H1 a.E _) a.S _) a.L _) a.W = _
      rw [upd_ne G.LW.symm, upd_ne G.SW.symm, upd_ne G.EW.symm]
      exact G1.hW
    · show (a.ds ++ [d]).length = g.n + 1
      rw [List.length_append, ln]
      rfl
    · show ∃ kvs', _ ∧ DRep kvs' (Sam.up1 g.ed g.n f i)
      have e : (a.ds ++ [d])[i]? = some d' := e
      by_cases z : i < a.ds.length
      · rw [List.getElem?_append_left z] at e
        obtain ⟨k2, h1, h2⟩ := G1.hd i d' e
        obtain ⟨_, n2, n3, n4, _⟩ := G1.dne (List.mem_of_getElem? e)
        refine ⟨k2, by rw [upd_ne n4, upd_ne n3, upd_ne n2]; exact h1, ?_⟩
        rw [Sam.up1_ne (by omega)]
        exact h2
      · rw [List.getElem?_append_right (by omega)] at e
        obtain ⟨z2, z3⟩ := List.getElem?_eq_some_iff.mp e
        have z4 : i - a.ds.length < 1 := z2
        have z5 : i = g.n := by omega
        have e2 : d = d' := by
          have : i - a.ds.length = 0 := by omega
          rw [this] at e
          exact Option.some.inj e
        subst e2
        refine ⟨kvs, by rw [upd_ne dL1, upd_ne dS1, upd_ne dE1]; exact hd1, ?_⟩
        rw [z5, Sam.up1_same]
        exact hf
    · rcases List.mem_append.mp m with m | m
      · exact G.nD d' m
      · rw [List.mem_singleton.mp m]; exact nd0
    · show (a.ds ++ [d]).Nodup
      rw [List.nodup_append]
      exact ⟨G.dd, by simp, fun x hx y hy z => by rw [List.mem_singleton.mp hy] at z; exact dn (z ▸ hx)⟩
end

end SH
set_option Elab.async false
set_option linter.all false
set_option maxRecDepth 100000
set_option maxHeartbeats 4000000
namespace SH
open PySem PySem.Spec PyProof.Rows L2
theorem ixN_nat {n i : Nat} (h : i < n) : ixN n (i : Int) = some i := by
  unfold ixN
  rw [if_pos (by omega), if_pos (by omega)]
  simp
/-! links lead to lesser classes, edges to greater ones -/
structure Okg (g : Sam.G) : Prop where
  z : 0 < g.n
  sz0 : g.sz 0 = 0
  dec : ∀ i, i < g.n → ∀ j, g.lk i = some j → j < g.n ∧ g.sz j < g.sz i
  up : ∀ i, i < g.n → ∀ c j, g.ed i c = some j → j < g.n ∧ g.sz i < g.sz j
  b : ∀ i, i < g.n → g.sz i ≤ 1000
theorem okg_of {L : Sam.Wd → Prop} {g : Sam.G} {rep : Nat → Sam.Wd} (I : Sam.Inv L g rep) (b : ∀ i, i < g.n → (rep i).length ≤ 1000) : Okg g := by
  refine ⟨I.n0, by rw [I.sz 0 I.n0, I.r0]; rfl, fun i h j e => ⟨(I.dec h e).1, (I.dec h e).2.1⟩, fun i h c j e => ?_, fun i h => by rw [I.sz i h]; exact b i h⟩
  obtain ⟨hj, x⟩ := (I.ed i h c j).mp e
  refine ⟨hj, ?_⟩
  rw [I.sz i h, I.sz j hj]
  have := x.2.1.length_le
  simp at this
  omega
def restOf (g : Sam.G) : Option Nat → List Nat
  | none => []
  | some t => Sam.chain g t
section
variable {g : Sam.G} (O : Okg g)
include O
theorem Okg.fuel : ∀ (k k' : Nat) {s : Nat}, s < g.n → g.sz s < k → g.sz s < k' → Sam.chn g.lk k s = Sam.chn g.lk k' s
  | 0, _, _, _, h, _ => absurd h (Nat.not_lt_zero _)
  | _, 0, _, _, _, h => absurd h (Nat.not_lt_zero _)
  | k + 1, k' + 1, s, hs, h1, h2 => by
    rw [Sam.chn, Sam.chn]
    cases e : g.lk s with
    | none => rfl
    | some t =>
      obtain ⟨ht, hz⟩ := O.dec s hs t e
      show s :: Sam.chn g.lk k t = s :: Sam.chn g.lk k' t
      rw [Okg.fuel k k' ht (by omega) (by omega)]
theorem Okg.chain_eq {s : Nat} (h : s < g.n) : Sam.chain g s = s :: restOf g (g.lk s) := by
  unfold Sam.chain
  rw [Sam.chn]
  cases e : g.lk s with
  | none => rfl
  | some t =>
    obtain ⟨ht, hz⟩ := O.dec s h t e
    show s :: Sam.chn g.lk (g.sz s) t = s :: Sam.chn g.lk (g.sz t + 1) t
    rw [O.fuel _ _ ht hz (Nat.lt_succ_self _)]
theorem Okg.chain_lt : ∀ (k : Nat) {s : Nat}, g.sz s ≤ k → s < g.n → ∀ j ∈ Sam.chain g s, j < g.n ∧ g.sz j ≤ g.sz s
  | k, s, hk, hs, j, hj => by
    rw [O.chain_eq hs] at hj
    rcases List.mem_cons.mp hj with e | m
    · rw [e]; exact ⟨hs, Nat.le_refl _⟩
    · cases e : g.lk s with
      | none => rw [e] at m; cases m
      | some t =>
        rw [e] at m
        obtain ⟨ht, hz⟩ := O.dec s hs t e
        match k, hk with
        | 0, hk => omega
        | k + 1, hk =>
          have := Okg.chain_lt k (s := t) (by omega) ht j m
          exact ⟨this.1, by omega⟩
theorem Okg.rest_lt {s : Nat} (hs : s < g.n) : ∀ t, g.lk s = some t → t < g.n := fun t e => (O.dec s hs t e).1
end
theorem chn_len (lk : Nat → Option Nat) : ∀ (k s : Nat), (Sam.chn lk k s).length ≤ k
  | 0, _ => Nat.le_refl _
  | k + 1, s => by
    rw [Sam.chn]
    cases e : lk s with
    | none => show 1 ≤ k + 1; omega
    | some t =>
      have := chn_len lk k t
      show (Sam.chn lk k t).length + 1 ≤ k + 1
      omega
theorem chain_len {g : Sam.G} (O : Okg g) {s : Nat} (h : s < g.n) : (Sam.chain g s).length ≤ 1001 := by
  have := chn_len g.lk (g.sz s + 1) s
  have := O.b s h
  unfold Sam.chain
  omega
def natV (l : List Nat) : List V := l.map fun (i : Nat) => V.int (i : Int)
theorem natV_app (l m : List Nat) : natV (l ++ m) = natV l ++ natV m := List.map_append ..
theorem natV_len (l : List Nat) : (natV l).length = l.length := List.length_map ..
section
variable {P : Program} {w : World} {K : PySem.W.Frag} {mg : Str → Option Value} {base : Heap} {ea : Ea}
/-- a class and its links, up to the start -/
def spLinked (C : Addr) : Sp := fun vs H Q _ => ∃ (p : Addr) (g : Sam.G) (a : Ad) (s : Nat), vs = [.ref p, .int (s : Int)] ∧ H p = some (.ins C a.dx (flds a)) ∧ H a.L = some (.lst (linksOf g)) ∧ Okg g ∧ s < g.n ∧
  ∀ H' l, Same H H' → H l = none → H' l = some (.lst (natV (Sam.chain g s))) → Q (.ref l) H'
theorem sc_Growth_linked : FnScope ["self", "state", "found"] ["self", "state"] (defScope s_Growth_linked) := ⟨rfl, rfl, rfl, by decide +kernel, rfl, by decide +kernel, by decide +kernel⟩
theorem ok_Growth_linked (T : Txt K mg ea) : C8.Met P w K mg base 1 ea.c_Growth "linked" (spLinked ea.c_Growth) [] := by
  have nd := sc_Growth_linked.nd
  refine met_of T.d_Growth_linked T.l_Growth sc_Growth_linked (fun vs H Q E h => ?_) (fun f cdv A outer s H vs Q E hr h => ?_)
  · obtain ⟨p, g, a, s, rfl, _⟩ := h
    rfl
  · obtain ⟨p, g, a, s, rfl, hp, hL, O, hs, q⟩ := h
    refine ⟨_, (pss_cons (ps_set (i := 2) nd rfl (.inl rfl) (pe_lst pa_nil))
      (pss_cons (ps_while PassesOwn.never (pt_cmpR op_notN (pv 1) pe_non (nomark _))
        (pss_cons (ps_expr (pe_bm PySem.F.plainAttrs_list PySem.F.slot_list_append PySem.F.type_list_append mt_append (pv 2) (pa_cons (pv 1) pa_nil)))
          (pss_one (ps_set (i := 1) nd rfl (.inl rfl) (pe_ix (ixl (K := K)) (pe_fldK (K := K) (pv 0) rfl) (pv 1) (fun _ _ => rfl))))))
      (pss_one (ps_ret (pv 2))))), ?_⟩
    refine ⟨Nat.zero_le _, fun l nl => ?_⟩
    have s1 := same_new (o := .lst []) nl
    let W : Nat → L2.St → Hp → Prop := fun m σ H' => ∃ (done : List Nat) (cur : Option Nat), σ = [some (.ref p), some (optN cur), some (.ref l)] ∧ (∀ t, cur = some t → t < g.n) ∧ Sam.chain g s = done ++ restOf g cur ∧ m = (restOf g cur).length ∧ Same H H' ∧ H' l = some (.lst (natV done))
    refine ⟨W, ⟨_, [], some s, rfl, (fun t e => by cases e; exact hs), rfl, rfl, s1, upd_same⟩, fun m σ H' hW => ?_⟩
    obtain ⟨done, cur, rfl, hc, e, em, sm, at_⟩ := hW
    cases cur with
    | none =>
      refine ⟨_, rfl, rfl, _, rfl, ?_⟩
      refine iteF ⟨_, rfl, q H' l sm nl ?_⟩
      rw [at_, e]
      show _ = some (HO.lst (natV (done ++ [])))
      rw [List.append_nil]
    | some t =>
      have ht := hc t rfl
      have et : restOf g (some t) = t :: restOf g (g.lk t) := O.chain_eq ht
      have cl := chain_len O hs
      rw [e, List.length_append, et, List.length_cons] at cl
      have lL : l ≠ a.L := fun z => by rw [z, hL] at nl; cases nl
      have lp : l ≠ p := fun z => by rw [z, hp] at nl; cases nl
      refine ⟨_, rfl, rfl, _, rfl, ?_⟩
      refine iteT ⟨fun σ' H' => ∃ m', m' < m ∧ W m' σ' H', fun σ' H' h => h, ?_⟩
      refine ⟨_, rfl, .inl ⟨rfl, _, SqL.of at_⟩, _, rfl, l, _, _, rfl, rfl, at_, sz1000 (by rw [natV_len]; omega), ?_⟩
      refine ⟨_, rfl, p, _, _, _, _, rfl, by rw [upd_ne lp.symm]; exact sm _ _ hp, T.l_Growth, T.n_Growth_links, fl_links a, _, rfl, a.L, _, _, _, rfl, rfl, SqL.of (by rw [upd_ne lL.symm]; exact sm _ _ hL), links_at ht, ?_⟩
      refine ⟨(restOf g (g.lk t)).length, by rw [em, et]; exact Nat.lt_succ_self _, done ++ [t], g.lk t, rfl, O.rest_lt ht, by rw [e, et, List.append_assoc]; rfl, rfl, same_mut sm nl, ?_⟩
      rw [upd_same, natV_app]
      rfl
end

end SH
set_option Elab.async false
set_option linter.all false
set_option maxRecDepth 100000
set_option maxHeartbeats 4000000
namespace SH
open PySem PySem.Spec PyProof.Rows L2
theorem setEd_nil (g : Sam.G) (c j : Nat) : Sam.setEd g c j [] = g := by
  unfold Sam.setEd
  have : (fun x d => if d = c ∧ x ∈ ([] : List Nat) then some j else g.ed x d) = g.ed := by
    funext x d
    rw [if_neg (fun z => nomatch z.2)]
  rw [this]
theorem setEd_app (g : Sam.G) (c j : Nat) (xs ys : List Nat) : Sam.setEd (Sam.setEd g c j xs) c j ys = Sam.setEd g c j (xs ++ ys) := by
  unfold Sam.setEd
  have : (fun x d => if d = c ∧ x ∈ ys then some j else if d = c ∧ x ∈ xs then some j else g.ed x d) = fun x d => if d = c ∧ x ∈ xs ++ ys then some j else g.ed x d := by
    funext x d
    by_cases h1 : d = c ∧ x ∈ ys
    · rw [if_pos h1, if_pos ⟨h1.1, List.mem_append_right _ h1.2⟩]
    · rw [if_neg h1]
      by_cases h2 : d = c ∧ x ∈ xs
      · rw [if_pos h2, if_pos ⟨h2.1, List.mem_append_left _ h2.2⟩]
      · rw [if_neg h2, if_neg fun z => (List.mem_append.mp z.2).elim (fun m => h2 ⟨z.1, m⟩) fun m => h1 ⟨z.1, m⟩]
  show Sam.G.mk _ _ _ _ = Sam.G.mk _ _ _ _
  rw [this]
theorem tw_split {p : Nat → Bool} : ∀ {done rest : List Nat}, (∀ x ∈ done, p x = true) → (∀ x, rest.head? = some x → p x = false) → (done ++ rest).takeWhile p = done ∧ (done ++ rest).dropWhile p = rest
  | [], rest, _, h => by
    cases rest with
    | nil => exact ⟨rfl, rfl⟩
    | cons a r =>
      have := h a rfl
      exact ⟨List.takeWhile_cons_of_neg (by rw [this]; decide), List.dropWhile_cons_of_neg (by rw [this]; decide)⟩
  | d :: done, rest, h1, h => by
    obtain ⟨i1, i2⟩ := tw_split (done := done) (rest := rest) (fun x m => h1 x (List.mem_cons_of_mem _ m)) h
    have := h1 d (List.mem_cons_self ..)
    refine ⟨?_, ?_⟩
    · rw [List.cons_append, List.takeWhile_cons_of_pos this, i1]
    · rw [List.cons_append, List.dropWhile_cons_of_pos this, i2]
theorem chain_nd {g : Sam.G} (O : Okg g) : ∀ (k : Nat) {s : Nat}, g.sz s ≤ k → s < g.n → (Sam.chain g s).Nodup
  | k, s, hk, hs => by
    rw [O.chain_eq hs]
    cases e : g.lk s with
    | none => show [s].Nodup; simp
    | some t =>
      obtain ⟨ht, hz⟩ := O.dec s hs t e
      match k, hk with
      | 0, hk => omega
      | k + 1, hk =>
        show (s :: Sam.chain g t).Nodup
        rw [List.nodup_cons]
        refine ⟨fun m => ?_, chain_nd O k (by omega) ht⟩
        have := (O.chain_lt _ (Nat.le_refl _) ht s m).2
        omega
theorem rest_head {g : Sam.G} (O : Okg g) {cur : Option Nat} (h : ∀ t, cur = some t → t < g.n) (x : Nat) : (restOf g cur).head? = some x → cur = some x := by
  cases cur with
  | none => intro e; cases e
  | some t =>
    show (Sam.chain g t).head? = some x → _
    rw [O.chain_eq (h t rfl)]
    intro e
    exact e
section
variable {P : Program} {w : World} {K : PySem.W.Frag} {mg : Str → Option Value} {base : Heap} {ea : Ea}
/-- the class that an edge leads to, split if it must be -/
def spLed (C : Addr) : Sp := fun vs H Q _ => ∃ (H0 : Hp) (p : Addr) (g : Sam.G) (a : Ad) (ws : List V) (s c old : Nat), vs = [.ref p, .int (s : Int), .str (chr1 c)] ∧ GrAt C H0 H p g a ws ∧ Okg g ∧ s < g.n ∧ c < 127 ∧ g.ed s c = some old ∧ g.n ≤ 1000 ∧
  ∀ H' ds, GrAt C H0 H' p (Sam.ledTo g s c).1 { a with ds := ds } ws → Q (.int ((Sam.ledTo g s c).2 : Int)) H'
theorem sc_Growth__led_to : FnScope ["self", "state", "letter", "old", "size", "split", "shorter"] ["self", "state", "letter"] (defScope s_Growth__led_to) := ⟨rfl, rfl, rfl, by decide +kernel, rfl, by decide +kernel, by decide +kernel⟩
theorem ok_Growth__led_to (T : Txt K mg ea) (c_Growth__add : C8.Met P w K mg base 1 ea.c_Growth "_add" (spAdd ea.c_Growth) []) : C8.Met P w K mg base 2 ea.c_Growth "_led_to" (spLed ea.c_Growth) [] := by
  have nd := sc_Growth__led_to.nd
  refine met_of T.d_Growth__led_to T.l_Growth sc_Growth__led_to (fun vs H Q E h => ?_) (fun f cdv A outer s0 H vs Q E hr h => ?_)
  · obtain ⟨H0, p, g, a, ws, s, c, old, rfl, _⟩ := h
    rfl
  · obtain ⟨H0, p, g, a, ws, s, c, old, rfl, G, O, hs, hc, eo, hn, q⟩ := h
    refine ⟨_, (pss_cons (ps_set (i := 3) nd rfl (.inl rfl) (pe_dget (hu_of hr) (pe_ix (ixl (K := K)) (pe_fldK (K := K) (pv 0) rfl) (pv 1) (fun _ _ => rfl)) (pv 2) (fun _ _ => rfl)))
      (pss_cons (ps_set (i := 4) nd rfl (.inl rfl) (pe_op op_add (pe_ix (ixl (K := K)) (pe_fldK (K := K) (pv 0) rfl) (pv 1) (fun _ _ => rfl)) pe_int))
      (pss_cons (ps_if (pt_cmpR op_eq (pe_ix (ixl (K := K)) (pe_fldK (K := K) (pv 0) rfl) (pv 3) (fun _ _ => rfl)) (pv 4) (nomark _))
        (pss_one (ps_ret (pv 3)))
        pss_nil)
      (pss_cons (ps_set (i := 5) nd rfl (.inl rfl) (C8.pe_mt c_Growth__add hr (by decide) (pv 0) (pa_cons (pv 4) (pa_cons (pe_ix (ixl (K := K)) (pe_fldK (K := K) (pv 0) rfl) (pv 3) (fun _ _ => rfl)) (pa_cons (pe_ix (ixl (K := K)) (pe_fldK (K := K) (pv 0) rfl) (pv 3) (fun _ _ => rfl)) pa_nil)))))
      (pss_cons (ps_asg (pv 5) (pg_sub (pe_fldK (K := K) (pv 0) rfl) (pv 3) set_list))
      (pss_cons (ps_set (i := 6) nd rfl (.inl rfl) (pv 1))
      (pss_cons (ps_while PassesOwn.never (PW.pt (pw_and (pt_cmpR op_notN (pv 6) pe_non (nomark _)) (pw_and1 (pt_cmpR op_eq (pe_dget1 (hu_of hr) (pe_ix (ixl (K := K)) (pe_fldK (K := K) (pv 0) rfl) (pv 6) (fun _ _ => rfl)) (pv 2) (by constructor <;> rfl)) (pv 3) (nomark _)))))
        (pss_cons (ps_dput (hu_of hr) (pe_ix (ixl (K := K)) (pe_fldK (K := K) (pv 0) rfl) (pv 6) (fun _ _ => rfl)) (pv 2) (pv 5) rfl)
          (pss_one (ps_set (i := 6) nd rfl (.inl rfl) (pe_ix (ixl (K := K)) (pe_fldK (K := K) (pv 0) rfl) (pv 6) (fun _ _ => rfl))))))
      (pss_one (ps_ret (pv 5)))))))))), ?_⟩
    obtain ⟨ho, hz⟩ := O.up s hs c old eo
    obtain ⟨d, kvs, dm, d0, dI, hd, rd⟩ := G.ed_at hs
    have dg : DGet H d (.str (chr1 c)) (some (.int (old : Int))) := by
      have := DGet.k (k := lkey c) hd
      rw [rd.vs c, eo] at this
      exact this
    -- old, size
    refine ⟨_, rfl, p, _, _, _, _, rfl, G.hp, T.l_Growth, T.n_Growth_edges, fl_edges a, _, rfl, a.E, _, _, _, rfl, rfl, SqL.of G.hE, dI, _, rfl, d, _, rfl, dg, ?_⟩
    refine ⟨_, rfl, p, _, _, _, _, rfl, G.hp, T.l_Growth, T.n_Growth_sizes, fl_sizes a, _, rfl, a.S, _, _, _, rfl, rfl, SqL.of G.hS, sizes_at hs, _, _, rfl, rfl, ?_⟩
    refine ⟨_, rfl, p, _, _, _, _, rfl, G.hp, T.l_Growth, T.n_Growth_sizes, fl_sizes a, _, rfl, a.S, _, _, _, rfl, rfl, SqL.of G.hS, sizes_at ho, _, rfl, rfl, _, rfl, ?_⟩
    have same : (decide (V.int (g.sz old : Int) = V.int ((g.sz s : Int) + 1)) = true) ↔ g.sz old = g.sz s + 1 := by
      rw [decide_eq_true_eq]
      constructor
      · intro e
        have := V.int.inj e
        omega
      · intro e
        rw [e]
        rfl
    have unf : Sam.ledTo g s c = if g.sz old = g.sz s + 1 then (g, old) else (Sam.setEd (Sam.setLk (Sam.addG g (g.sz s + 1) (g.ed old) (g.lk old)) old (some g.n)) c g.n (Sam.redOf g s c old), g.n) := by
      unfold Sam.ledTo
      rw [eo]
    refine ite2 (fun e => ?_) (fun e => ?_)
    · rw [unf, if_pos (same.mp e)] at q
      exact ⟨_, rfl, q H a.ds G⟩
    have e1 : ¬ g.sz old = g.sz s + 1 := fun z => e (same.mpr z)
    rw [unf, if_neg e1] at q
    -- split
    obtain ⟨d2, kvs2, dm2, d02, dI2, hd2, rd2⟩ := G.ed_at ho
    refine ⟨_, rfl, p, _, _, rfl, G.hp, rfl, _, rfl, _, rfl, p, _, _, _, _, rfl, G.hp, T.l_Growth, T.n_Growth_edges, fl_edges a, _, rfl, a.E, _, _, _, rfl, rfl, SqL.of G.hE, dI2, _, rfl, p, _, _, _, _, rfl, G.hp, T.l_Growth, T.n_Growth_links, fl_links a, _, rfl, a.L, _, _, _, rfl, rfl, SqL.of G.hL, links_at ho, ?_⟩
    refine ⟨H0, p, g, a, ws, g.sz s + 1, d2, kvs2, g.ed old, g.lk old, rfl, G, hd2, rd2, hn, fun H1 dn G1 => ?_⟩
    have hn1 : g.n < g.n + 1 := Nat.lt_succ_self _
    have G2 := G1.link (i := old) (t := some g.n) (show old < g.n + 1 by omega)
    have set_ : (linksOf (Sam.addG g (g.sz s + 1) (g.ed old) (g.lk old))).length = g.n + 1 := links_len _
    refine ⟨_, rfl, _, rfl, p, _, _, _, _, rfl, G1.hp, T.l_Growth, T.n_Growth_links, fl_links a, _, rfl, a.L, _, _, old, rfl, rfl, G1.hL, ixN_nat (by rw [set_]; omega), ?_⟩
    generalize hg2 : Sam.setLk (Sam.addG g (g.sz s + 1) (g.ed old) (g.lk old)) old (some g.n) = g2 at G2 q
    have g2n : g2.n = g.n + 1 := by rw [← hg2]; rfl
    have g2ed : ∀ t, t < g.n → ∀ x, g2.ed t x = g.ed t x := fun t ht x => by
      rw [← hg2]
      show Sam.up1 g.ed g.n (g.ed old) t x = _
      rw [Sam.up1_ne (by omega)]
    have g2lk : ∀ t, t < g.n → t ≠ old → g2.lk t = g.lk t := fun t ht ho => by
      rw [← hg2]
      show Sam.up1 (Sam.up1 g.lk g.n (g.lk old)) old (some g.n) t = _
      rw [Sam.up1_ne ho, Sam.up1_ne (by omega)]
    -- the loop
    refine ⟨_, rfl, ?_⟩
    let W : Nat → L2.St → Hp → Prop := fun m σ H' => ∃ (done : List Nat) (cur : Option Nat), σ = [some (.ref p), some (.int (s : Int)), some (.str (chr1 c)), some (.int (old : Int)), some (.int ((g.sz s : Int) + 1)), some (.int (g.n : Int)), some (optN cur)] ∧
      (∀ t, cur = some t → t < g.n) ∧ Sam.chain g s = done ++ restOf g cur ∧ m = (restOf g cur).length ∧ (∀ x ∈ done, g.ed x c = some old) ∧ GrAt ea.c_Growth H0 H' p (Sam.setEd g2 c g.n done) { a with ds := a.ds ++ [dn] } ws
    refine ⟨W, ⟨_, [], some s, rfl, (fun t e => by cases e; exact hs), rfl, rfl, (fun x h => nomatch h), by rw [setEd_nil]; exact G2⟩, fun m σ H' hW => ?_⟩
    obtain ⟨done, cur, rfl, hcur, ech, em, hdone, G3⟩ := hW
    have fin : (∀ t, cur = some t → g.ed t c ≠ some old) → Q (.int (g.n : Int)) H' := fun h => by
      refine q H' (a.ds ++ [dn]) ?_
      have : Sam.redOf g s c old = done := by
        unfold Sam.redOf
        rw [ech]
        refine (tw_split (fun x hx => decide_eq_true (hdone x hx)) fun x hx => decide_eq_false (h x (rest_head O hcur x hx))).1
      rw [this]
      exact G3
    cases cur with
    | none =>
      refine ⟨_, rfl, rfl, _, rfl, ?_⟩
      exact iteF ⟨_, rfl, fin fun t e => by cases e⟩
    | some t =>
      have ht := hcur t rfl
      have et : restOf g (some t) = t :: restOf g (g.lk t) := O.chain_eq ht
      have tch : t ∈ Sam.chain g s := by rw [ech, et]; simp
      have tz := (O.chain_lt _ (Nat.le_refl _) hs t tch).2
      have told : t ≠ old := fun z => by rw [z] at tz; omega
      have tnd : t ∉ done := fun m => by
        have := chain_nd O _ (Nat.le_refl _) hs
        rw [ech, et, List.nodup_append] at this
        exact this.2.2 t m t (List.mem_cons_self ..) rfl
      have g3n : (Sam.setEd g2 c g.n done).n = g.n + 1 := g2n
      have ht3 : t < (Sam.setEd g2 c g.n done).n := by omega
      have g3ed : (Sam.setEd g2 c g.n done).ed t c = g.ed t c := by
        show (if c = c ∧ t ∈ done then some g.n else g2.ed t c) = _
        rw [if_neg (fun z => tnd z.2), g2ed t ht]
      obtain ⟨d3, kvs3, dm3, d03, dI3, hd3, rd3⟩ := G3.ed_at ht3
      have gv := rd3.vs c
      rw [g3ed] at gv
      have dg3 : DGet H' d3 (.str (chr1 c)) ((g.ed t c).map fun j => V.int (j : Int)) := by
        have := DGet.k (k := lkey c) hd3
        rw [gv] at this
        exact this
      refine ⟨_, rfl, rfl, _, rfl, ?_⟩
      cases hv : g.ed t c with
      | none =>
        rw [hv] at dg3
        refine iteT ⟨_, rfl, p, _, _, _, _, rfl, G3.hp, T.l_Growth, T.n_Growth_edges, fl_edges a, _, rfl, a.E, _, _, _, rfl, rfl, SqL.of G3.hE, dI3, d3, rfl, .inl ⟨_, .inl hd3⟩, _, rfl, _, dg3, _, rfl, rfl, _, rfl, iteF ⟨_, rfl, fin fun t2 e2 => ?_⟩⟩
        cases e2
        rw [hv]
        exact fun z => by cases z
      | some o =>
        rw [hv] at dg3
        refine iteT ⟨_, rfl, p, _, _, _, _, rfl, G3.hp, T.l_Growth, T.n_Growth_edges, fl_edges a, _, rfl, a.E, _, _, _, rfl, rfl, SqL.of G3.hE, dI3, d3, rfl, .inl ⟨_, .inl hd3⟩, _, rfl, _, dg3, _, rfl, rfl, _, rfl, ite2 (fun e2 => ?_) (fun e2 => ?_)⟩
        · have eo2 : o = old := by
            have := V.int.inj (of_decide_eq_true e2)
            omega
          subst eo2
          -- one turn
          refine ⟨fun σ' H' => ∃ m', m' < m ∧ W m' σ' H', fun _ _ h => h, ?_⟩
          have G4 := G3.put (i := t) d03 hd3 hc g.n
          rw [setEd_app] at G4
          refine ⟨_, rfl, _, rfl, p, _, _, _, _, rfl, G3.hp, T.l_Growth, T.n_Growth_edges, fl_edges a, _, rfl, a.E, _, _, _, rfl, rfl, SqL.of G3.hE, dI3, _, rfl, d3, _, rfl, DPut.k (k := lkey c) hd3 (sz1000 (by have := rd3.len; omega)), ?_⟩
          have lt : atI (linksOf (Sam.setEd g2 c g.n (done ++ [t]))) (t : Int) = some (optN (g.lk t)) := by
            rw [links_at (g := Sam.setEd g2 c g.n (done ++ [t])) (show t < g2.n by omega)]
            show some (optN (g2.lk t)) = _
            rw [g2lk t ht told]
          refine ⟨_, rfl, p, _, _, _, _, rfl, G4.hp, T.l_Growth, T.n_Growth_links, fl_links a, _, rfl, a.L, _, _, _, rfl, rfl, SqL.of G4.hL, lt, ?_⟩
          refine ⟨(restOf g (g.lk t)).length, by rw [em, et]; exact Nat.lt_succ_self _, done ++ [t], g.lk t, rfl, O.rest_lt ht, by rw [ech, et, List.append_assoc]; rfl, rfl, fun x hx => ?_, G4⟩
          rcases List.mem_append.mp hx with k | k
          · exact hdone x k
          · rw [List.mem_singleton.mp k]; exact hv
        · refine ⟨_, rfl, fin fun t2 e3 => ?_⟩
          cases e3
          rw [hv]
          exact fun z => e2 (decide_eq_true (congrArg (fun n : Nat => V.int (n : Int)) (Option.some.inj z)))
end

end SH
set_option Elab.async false
set_option linter.all false
set_option maxRecDepth 100000
set_option maxHeartbeats 4000000
namespace SH
open PySem PySem.Spec PyProof.Rows L2
/-- with the new class -/
def freshG (g : Sam.G) (s c : Nat) (done : List Nat) : Sam.G := Sam.setEd (Sam.addG g (g.sz s + 1) (fun _ => none) (some 0)) c g.n done
theorem okg_fresh {g : Sam.G} (O : Okg g) {s c : Nat} (hs : s < g.n) (hb : g.sz s < 1000) {done : List Nat} (hd : ∀ x ∈ done, x < g.n ∧ g.sz x ≤ g.sz s) : Okg (freshG g s c done) := by
  have hz := O.z
  refine ⟨Nat.succ_pos _, ?_, fun i hi j e => ?_, fun i hi d j e => ?_, fun i hi => ?_⟩
  · show Sam.up1 g.sz g.n (g.sz s + 1) 0 = 0
    rw [Sam.up1_ne (by omega)]
    exact O.sz0
  · have hi : i < g.n + 1 := hi
    have e : Sam.up1 g.lk g.n (some 0) i = some j := e
    show j < g.n + 1 ∧ Sam.up1 g.sz g.n (g.sz s + 1) j < Sam.up1 g.sz g.n (g.sz s + 1) i
    by_cases z : i = g.n
    · rw [z, Sam.up1_same] at e
      have : j = 0 := (Option.some.inj e).symm
      rw [this, z, Sam.up1_same, Sam.up1_ne (by omega), O.sz0]
      omega
    · rw [Sam.up1_ne z] at e
      obtain ⟨h1, h2⟩ := O.dec i (by omega) j e
      rw [Sam.up1_ne z, Sam.up1_ne (by omega)]
      exact ⟨by omega, h2⟩
  · have hi : i < g.n + 1 := hi
    have e : (if d = c ∧ i ∈ done then some g.n else Sam.up1 g.ed g.n (fun _ => none) i d) = some j := e
    show j < g.n + 1 ∧ Sam.up1 g.sz g.n (g.sz s + 1) i < Sam.up1 g.sz g.n (g.sz s + 1) j
    by_cases z : i = g.n
    · rw [if_neg (fun q => by have := (hd i q.2).1; omega), z, Sam.up1_same] at e
      cases e
    · by_cases q : d = c ∧ i ∈ done
      · rw [if_pos q] at e
        have := Option.some.inj e
        subst this
        rw [Sam.up1_ne z, Sam.up1_same]
        have := (hd i q.2).2
        omega
      · rw [if_neg q, Sam.up1_ne z] at e
        obtain ⟨h1, h2⟩ := O.up i (by omega) d j e
        rw [Sam.up1_ne z, Sam.up1_ne (by omega)]
        exact ⟨by omega, h2⟩
  · have hi : i < g.n + 1 := hi
    show Sam.up1 g.sz g.n (g.sz s + 1) i ≤ 1000
    by_cases z : i = g.n
    · rw [z, Sam.up1_same]; omega
    · rw [Sam.up1_ne z]; exact O.b i (by omega)
theorem after_some {g : Sam.G} {s c old : Nat} (e : g.ed s c = some old) : Sam.after g s c = Sam.ledTo g s c := by
  unfold Sam.after
  rw [e]
theorem after_none {g : Sam.G} {s c : Nat} {done : List Nat} (e : g.ed s c = none) (hd : Sam.preOf g s c = done) (hn : Sam.nextOf g s c = none) : Sam.after g s c = (freshG g s c done, g.n) := by
  unfold Sam.after
  rw [e]
  show (match Sam.nextOf g s c with | none => _ | some q => _) = _
  rw [hn, hd]
  rfl
theorem after_next {g : Sam.G} {s c q : Nat} {done : List Nat} (e : g.ed s c = none) (hd : Sam.preOf g s c = done) (hn : Sam.nextOf g s c = some q) : Sam.after g s c = (Sam.setLk (Sam.ledTo (freshG g s c done) q c).1 g.n (some (Sam.ledTo (freshG g s c done) q c).2), g.n) := by
  unfold Sam.after
  rw [e]
  show (match Sam.nextOf g s c with | none => _ | some q => _) = _
  rw [hn, hd]
  rfl
section
variable {P : Program} {w : World} {K : PySem.W.Frag} {mg : Str → Option Value} {base : Heap} {ea : Ea}
/-- the class of the longest word with a letter behind it -/
def spAfter (C : Addr) : Sp := fun vs H Q _ => ∃ (H0 : Hp) (p : Addr) (g : Sam.G) (a : Ad) (ws : List V) (s c : Nat), vs = [.ref p, .int (s : Int), .str (chr1 c)] ∧ GrAt C H0 H p g a ws ∧ Okg g ∧ s < g.n ∧ c < 127 ∧ g.n ≤ 900 ∧ g.sz s < 1000 ∧
  ∀ H' ds, GrAt C H0 H' p (Sam.after g s c).1 { a with ds := ds } ws → Q (.int ((Sam.after g s c).2 : Int)) H'
theorem sc_Growth__after : FnScope ["self", "state", "letter", "fresh", "shorter"] ["self", "state", "letter"] (defScope s_Growth__after) := ⟨rfl, rfl, rfl, by decide +kernel, rfl, by decide +kernel, by decide +kernel⟩
theorem ok_Growth__after (T : Txt K mg ea) (c_Growth__add : C8.Met P w K mg base 1 ea.c_Growth "_add" (spAdd ea.c_Growth) []) (c_Growth__led_to : C8.Met P w K mg base 2 ea.c_Growth "_led_to" (spLed ea.c_Growth) []) : C8.Met P w K mg base 3 ea.c_Growth "_after" (spAfter ea.c_Growth) [] := by
  have nd := sc_Growth__after.nd
  refine met_of T.d_Growth__after T.l_Growth sc_Growth__after (fun vs H Q E h => ?_) (fun f cdv A outer s0 H vs Q E hr h => ?_)
  · obtain ⟨H0, p, g, a, ws, s, c, rfl, _⟩ := h
    rfl
  · obtain ⟨H0, p, g, a, ws, s, c, rfl, G, O, hs, hc, hn, hb, q⟩ := h
    refine ⟨_, (pss_cons (ps_if (pt_cmp (pc_din (hu_of hr) (pv 2) (pe_ix (ixl (K := K)) (pe_fldK (K := K) (pv 0) rfl) (pv 1) (fun _ _ => rfl))))
        (pss_one (ps_ret (C8.pe_mt c_Growth__led_to hr (by decide) (pv 0) (pa_cons (pv 1) (pa_cons (pv 2) pa_nil)))))
        pss_nil)
      (pss_cons (ps_set (i := 3) nd rfl (.inl rfl) (C8.pe_mt c_Growth__add hr (by decide) (pv 0) (pa_cons (pe_op op_add (pe_ix (ixl (K := K)) (pe_fldK (K := K) (pv 0) rfl) (pv 1) (fun _ _ => rfl)) pe_int) (pa_cons pe_dnewK (pa_cons pe_int pa_nil)))))
      (pss_cons (ps_set (i := 4) nd rfl (.inl rfl) (pv 1))
      (pss_cons (ps_while PassesOwn.never (PW.pt (pw_and (pt_cmpR op_notN (pv 4) pe_non (nomark _)) (pw_and1 (pt_cmp (pc_dnotin (hu_of hr) (pv 2) (pe_ix (ixl (K := K)) (pe_fldK (K := K) (pv 0) rfl) (pv 4) (fun _ _ => rfl)))))))
        (pss_cons (ps_dput (hu_of hr) (pe_ix (ixl (K := K)) (pe_fldK (K := K) (pv 0) rfl) (pv 4) (fun _ _ => rfl)) (pv 2) (pv 3) rfl)
          (pss_one (ps_set (i := 4) nd rfl (.inl rfl) (pe_ix (ixl (K := K)) (pe_fldK (K := K) (pv 0) rfl) (pv 4) (fun _ _ => rfl))))))
      (pss_cons (ps_if (pt_cmpR op_notN (pv 4) pe_non (nomark _))
        (pss_one (ps_asg (C8.pe_mt c_Growth__led_to hr (by decide) (pv 0) (pa_cons (pv 4) (pa_cons (pv 2) pa_nil))) (pg_sub (pe_fldK (K := K) (pv 0) rfl) (pv 3) set_list)))
        pss_nil)
      (pss_one (ps_ret (pv 3)))))))), ?_⟩
    obtain ⟨d, kvs, dm, d0, dI, hd, rd⟩ := G.ed_at hs
    have dg : DGet H d (.str (chr1 c)) ((g.ed s c).map fun j => V.int (j : Int)) := by
      have := DGet.k (k := lkey c) hd
      rw [rd.vs c] at this
      exact this
    refine ⟨_, rfl, _, rfl, p, _, _, _, _, rfl, G.hp, T.l_Growth, T.n_Growth_edges, fl_edges a, _, rfl, a.E, _, _, _, rfl, rfl, SqL.of G.hE, dI, d, _, rfl, dg, ?_⟩
    cases eo : g.ed s c with
    | some old =>
      rw [after_some eo] at q
      refine ⟨_, rfl, ?_⟩
      refine iteT ⟨_, rfl, p, _, _, rfl, G.hp, rfl, _, rfl, _, rfl, H0, p, g, a, ws, s, c, old, rfl, G, O, hs, hc, eo, by omega, fun H' ds G' => q H' ds G'⟩
    | none =>
      refine ⟨_, rfl, ?_⟩
      refine iteF ?_
      -- the new class
      refine ⟨_, rfl, p, _, _, rfl, G.hp, rfl, _, rfl, p, _, _, _, _, rfl, G.hp, T.l_Growth, T.n_Growth_sizes, fl_sizes a, _, rfl, a.S, _, _, _, rfl, rfl, SqL.of G.hS, sizes_at hs, _, _, rfl, rfl, fun de ne => ?_⟩
      have Ge := G.keep (same_new (o := .dK []) ne)
      refine ⟨H0, p, g, a, ws, g.sz s + 1, de, [], fun _ => none, some 0, rfl, Ge, upd_same, DRep.nil, by omega, fun H1 dn G1 => ?_⟩
      -- the loop
      refine ⟨_, rfl, ?_⟩
      have fe : ∀ done, Sam.setEd (Sam.addG g (g.sz s + 1) (fun _ => none) (some 0)) c g.n done = freshG g s c done := fun _ => rfl
      have fed : ∀ (done : List Nat) (t : Nat), t < g.n → t ∉ done → (freshG g s c done).ed t c = g.ed t c := fun done t ht tn => by
        show (if c = c ∧ t ∈ done then some g.n else Sam.up1 g.ed g.n (fun _ => none) t c) = _
        rw [if_neg (fun z => tn z.2), Sam.up1_ne (by omega)]
      have flk : ∀ (done : List Nat) (t : Nat), t < g.n → (freshG g s c done).lk t = g.lk t := fun done t ht => by
        show Sam.up1 g.lk g.n (some 0) t = _
        rw [Sam.up1_ne (by omega)]
      let W : Nat → L2.St → Hp → Prop := fun m σ H' => ∃ (done : List Nat) (cur : Option Nat), σ = [some (.ref p), some (.int (s : Int)), some (.str (chr1 c)), some (.int (g.n : Int)), some (optN cur)] ∧
        (∀ t, cur = some t → t < g.n) ∧ Sam.chain g s = done ++ restOf g cur ∧ m = (restOf g cur).length ∧ (∀ x ∈ done, g.ed x c = none) ∧ GrAt ea.c_Growth H0 H' p (freshG g s c done) { a with ds := a.ds ++ [dn] } ws
      refine ⟨W, ⟨_, [], some s, rfl, (fun t e => by cases e; exact hs), rfl, rfl, (fun x h => nomatch h), by rw [← fe, setEd_nil]; exact G1⟩, fun m σ H' hW => ?_⟩
      obtain ⟨done, cur, rfl, hcur, ech, em, hdone, G3⟩ := hW
      have dch : ∀ x ∈ done, x < g.n ∧ g.sz x ≤ g.sz s := fun x hx => O.chain_lt _ (Nat.le_refl _) hs x (by rw [ech]; exact List.mem_append_left _ hx)
      have split_ : (∀ t, cur = some t → g.ed t c ≠ none) → Sam.preOf g s c = done ∧ Sam.nextOf g s c = cur := fun h => by
        have tw := tw_split (p := fun x => decide (g.ed x c = none)) (done := done) (rest := restOf g cur) (fun x hx => decide_eq_true (hdone x hx)) fun x hx => decide_eq_false (h x (rest_head O hcur x hx))
        refine ⟨?_, ?_⟩
        · unfold Sam.preOf
          rw [ech]
          exact tw.1
        · unfold Sam.nextOf
          rw [ech, tw.2]
          cases hc2 : cur with
          | none => rfl
          | some t =>
            show (Sam.chain g t).head? = some t
            rw [O.chain_eq (hcur t hc2)]
            rfl
      cases cur with
      | none =>
        obtain ⟨h1, h2⟩ := split_ fun t e => by cases e
        rw [after_none eo h1 h2] at q
        refine ⟨_, rfl, rfl, _, rfl, ?_⟩
        exact iteF ⟨_, rfl, rfl, _, rfl, iteF ⟨_, rfl, q H' _ G3⟩⟩
      | some t =>
        have ht := hcur t rfl
        have et : restOf g (some t) = t :: restOf g (g.lk t) := O.chain_eq ht
        have tnd : t ∉ done := fun m => by
          have := chain_nd O _ (Nat.le_refl _) hs
          rw [ech, et, List.nodup_append] at this
          exact this.2.2 t m t (List.mem_cons_self ..) rfl
        have ht3 : t < (freshG g s c done).n := by show t < g.n + 1; omega
        obtain ⟨d3, kvs3, dm3, d03, dI3, hd3, rd3⟩ := G3.ed_at ht3
        have gv := rd3.vs c
        rw [fed done t ht tnd] at gv
        have dg3 : DGet H' d3 (.str (chr1 c)) ((g.ed t c).map fun j => V.int (j : Int)) := by
          have := DGet.k (k := lkey c) hd3
          rw [gv] at this
          exact this
        refine ⟨_, rfl, rfl, _, rfl, ?_⟩
        cases hv : g.ed t c with
        | none =>
          rw [hv] at dg3
          refine iteT ⟨_, rfl, _, rfl, p, _, _, _, _, rfl, G3.hp, T.l_Growth, T.n_Growth_edges, fl_edges a, _, rfl, a.E, _, _, _, rfl, rfl, SqL.of G3.hE, dI3, d3, _, rfl, dg3, _, rfl, iteT ?_⟩
          refine ⟨fun σ' H' => ∃ m', m' < m ∧ W m' σ' H', fun _ _ h => h, ?_⟩
          have G4 := G3.put (i := t) d03 hd3 hc g.n
          rw [← fe, setEd_app, fe] at G4
          refine ⟨_, rfl, _, rfl, p, _, _, _, _, rfl, G3.hp, T.l_Growth, T.n_Growth_edges, fl_edges a, _, rfl, a.E, _, _, _, rfl, rfl, SqL.of G3.hE, dI3, _, rfl, d3, _, rfl, DPut.k (k := lkey c) hd3 (sz1000 (by have := rd3.len; omega)), ?_⟩
          have lt : atI (linksOf (freshG g s c (done ++ [t]))) (t : Int) = some (optN (g.lk t)) := by
            rw [links_at (g := freshG g s c (done ++ [t])) (show t < g.n + 1 by omega), flk _ t ht]
          refine ⟨_, rfl, p, _, _, _, _, rfl, G4.hp, T.l_Growth, T.n_Growth_links, fl_links a, _, rfl, a.L, _, _, _, rfl, rfl, SqL.of G4.hL, lt, ?_⟩
          refine ⟨(restOf g (g.lk t)).length, by rw [em, et]; exact Nat.lt_succ_self _, done ++ [t], g.lk t, rfl, O.rest_lt ht, by rw [ech, et, List.append_assoc]; rfl, rfl, fun x hx => ?_, G4⟩
          rcases List.mem_append.mp hx with k | k
          · exact hdone x k
          · rw [List.mem_singleton.mp k]; exact hv
        | some o =>
          rw [hv] at dg3
          obtain ⟨h1, h2⟩ := split_ fun t2 e2 => by cases e2; rw [hv]; exact fun z => by cases z
          rw [after_next eo h1 h2] at q
          refine iteT ⟨_, rfl, _, rfl, p, _, _, _, _, rfl, G3.hp, T.l_Growth, T.n_Growth_edges, fl_edges a, _, rfl, a.E, _, _, _, rfl, rfl, SqL.of G3.hE, dI3, d3, _, rfl, dg3, _, rfl, iteF ?_⟩
          refine ⟨_, rfl, rfl, _, rfl, iteT ?_⟩
          have O3 := okg_fresh (c := c) O hs hb dch
          have e3 : (freshG g s c done).ed t c = some o := by rw [fed done t ht tnd, hv]
          refine ⟨_, rfl, p, _, _, rfl, G3.hp, rfl, _, rfl, _, rfl, H0, p, _, _, ws, t, c, o, rfl, G3, O3, ht3, hc, e3, by show g.n + 1 ≤ 1000; omega, fun H5 ds5 G5 => ?_⟩
          have n5 : g.n < (Sam.ledTo (freshG g s c done) t c).1.n := by
            unfold Sam.ledTo
            rw [e3]
            show g.n < (if _ then _ else _ : Sam.G × Nat).1.n
            split
            · exact Nat.lt_succ_self _
            · show g.n < g.n + 1 + 1
              omega
          refine ⟨_, rfl, p, _, _, _, _, rfl, G5.hp, T.l_Growth, T.n_Growth_links, fl_links a, _, rfl, a.L, _, _, g.n, rfl, rfl, G5.hL, ixN_nat (by rw [links_len]; exact n5), ?_⟩
          have G6 := G5.link n5 (some (Sam.ledTo (freshG g s c done) t c).2)
          exact ⟨_, rfl, q _ ds5 G6⟩
end

end SH
set_option Elab.async false
set_option linter.all false
set_option maxRecDepth 100000
set_option maxHeartbeats 4000000
namespace SH
open PySem PySem.Spec PyProof.Rows L2
theorem ledTo_n (g : Sam.G) (s c : Nat) : (Sam.ledTo g s c).1.n ≤ g.n + 1 ∧ g.n ≤ (Sam.ledTo g s c).1.n := by
  unfold Sam.ledTo
  cases g.ed s c with
  | none => exact ⟨Nat.le_succ _, Nat.le_refl _⟩
  | some old =>
    show (if _ then _ else _ : Sam.G × Nat).1.n ≤ _ ∧ _ ≤ (if _ then _ else _ : Sam.G × Nat).1.n
    split
    · exact ⟨Nat.le_succ _, Nat.le_refl _⟩
    · exact ⟨Nat.le_refl _, Nat.le_succ _⟩
theorem after_n (g : Sam.G) (s c : Nat) : (Sam.after g s c).1.n ≤ g.n + 2 := by
  cases e : g.ed s c with
  | some old =>
    rw [after_some e]
    have := (ledTo_n g s c).1
    omega
  | none =>
    cases hn : Sam.nextOf g s c with
    | none => rw [after_none e rfl hn]; show g.n + 1 ≤ g.n + 2; omega
    | some q =>
      rw [after_next e rfl hn]
      have := (ledTo_n (freshG g s c (Sam.preOf g s c)) q c).1
      show (Sam.ledTo _ q c).1.n ≤ _
      have e2 : (freshG g s c (Sam.preOf g s c)).n = g.n + 1 := rfl
      omega
theorem inner_len {D : List Sam.Wd} {m : Nat} (h : ∀ x ∈ D, x.length ≤ m) {u : Sam.Wd} (i : Sam.Inner D u) : u.length ≤ m := by
  obtain ⟨t, mt, x, y, e⟩ := i
  have := h t mt
  rw [e] at this
  simp at this
  omega
/-- the classes of a text's beginnings -/
structure WayOk (g : Sam.G) (rep : Nat → Sam.Wd) (way : List Nat) (t : Sam.Wd) : Prop where
  len : way.length = t.length + 1
  at_ : ∀ j, j ≤ t.length → ∃ x, way[j]? = some x ∧ x < g.n ∧ rep x = t.take j
section
variable {C : Addr} {H0 H : Hp} {p : Addr} {g : Sam.G} {a : Ad} {ws : List V} {l : Addr} {o o' : HO}
theorem GrAt.add (G : GrAt C H0 H p g a ws) (h : H l = none) (o : HO) : GrAt C (upd H0 l o) (upd H l o) p g a ws := by
  have hn : ∀ {b x}, H b = some x → b ≠ l := fun {b x} e z => by rw [z, h] at e; cases e
  have hn0 : ∀ {b : Addr}, H0 b = none → b ≠ l → (upd H0 l o) b = none := fun {b} e z => by rw [upd_ne z]; exact e
  have hD : ∀ d ∈ a.ds, d ≠ l := fun d hd => by
    obtain ⟨i, hi, e⟩ := List.getElem_of_mem hd
    obtain ⟨kvs, h1, _⟩ := G.hd i d (by rw [List.getElem?_eq_getElem hi, e])
    exact hn h1
  have hdd : ∀ i d, a.ds[i]? = some d → ∃ kvs, (upd H l o) d = some (.dK kvs) ∧ DRep kvs (g.ed i) := fun i d e => by
    obtain ⟨kvs, h1, h2⟩ := G.hd i d e
    exact ⟨kvs, by rw [upd_ne (hn h1)]; exact h1, h2⟩
  refine { sm := fun b x e => ?_, hp := by rw [upd_ne (hn G.hp)]; exact G.hp, hE := by rw [upd_ne (hn G.hE)]; exact G.hE, hS := by rw [upd_ne (hn G.hS)]; exact G.hS, hL := by rw [upd_ne (hn G.hL)]; exact G.hL, hW := by rw [upd_ne (hn G.hW)]; exact G.hW, ln := G.ln, hd := hdd, np := hn0 G.np (hn G.hp), nE := hn0 G.nE (hn G.hE), nS := hn0 G.nS (hn G.hS), nL := hn0 G.nL (hn G.hL), nW := hn0 G.nW (hn G.hW), nD := fun d hd => hn0 (G.nD d hd) (hD d hd), ES := G.ES, EL := G.EL, EW := G.EW, SL := G.SL, SW := G.SW, LW := G.LW, dd := G.dd }
  by_cases z : b = l
  · rw [z, upd_same] at e ⊢
    exact e
  · rw [upd_ne z] at e ⊢
    exact G.sm _ _ e
theorem GrAt.set (G : GrAt C (upd H0 l o) H p g a ws) (o' : HO) : GrAt C (upd H0 l o') (upd H l o') p g a ws := by
  have hn : ∀ {b : Addr}, (upd H0 l o) b = none → b ≠ l := fun {b} e z => by rw [z, upd_same] at e; cases e
  have hn0 : ∀ {b : Addr}, (upd H0 l o) b = none → (upd H0 l o') b = none := fun {b} e => by
    have z := hn e
    rw [upd_ne z] at e ⊢
    exact e
  have hdd : ∀ i d, a.ds[i]? = some d → ∃ kvs, (upd H l o') d = some (.dK kvs) ∧ DRep kvs (g.ed i) := fun i d e => by
    obtain ⟨kvs, h1, h2⟩ := G.hd i d e
    exact ⟨kvs, by rw [upd_ne (hn (G.nD d (List.mem_of_getElem? e)))]; exact h1, h2⟩
  refine { sm := fun b x e => ?_, hp := by rw [upd_ne (hn G.np)]; exact G.hp, hE := by rw [upd_ne (hn G.nE)]; exact G.hE, hS := by rw [upd_ne (hn G.nS)]; exact G.hS, hL := by rw [upd_ne (hn G.nL)]; exact G.hL, hW := by rw [upd_ne (hn G.nW)]; exact G.hW, ln := G.ln, hd := hdd, np := hn0 G.np, nE := hn0 G.nE, nS := hn0 G.nS, nL := hn0 G.nL, nW := hn0 G.nW, nD := fun d hd => hn0 (G.nD d hd), ES := G.ES, EL := G.EL, EW := G.EW, SL := G.SL, SW := G.SW, LW := G.LW, dd := G.dd }
  by_cases z : b = l
  · rw [z, upd_same] at e ⊢
    exact e
  · rw [upd_ne z] at e ⊢
    exact G.sm _ _ (by rw [upd_ne z]; exact e)
theorem GrAt.own (G : GrAt C (upd H0 l o) H p g a ws) : H l = some o := G.sm _ _ upd_same
theorem GrAt.drop (G : GrAt C (upd H0 l o) H p g a ws) (h : H0 l = none) : GrAt C H0 H p g a ws := by
  refine G.frame (fun b x e => G.sm _ _ ?_) fun b n => ?_
  · rw [upd_ne (fun z => by rw [z, h] at e; cases e)]
    exact e
  · left
    rw [upd_ne (fun z => n (by rw [z]; exact h))]
    exact n
end
section
variable {P : Program} {w : World} {K : PySem.W.Frag} {mg : Str → Option Value} {base : Heap} {ea : Ea}
/-- a text put in: the classes of its beginnings -/
def spWay (C : Addr) : Sp := fun vs H Q _ => ∃ (H0 : Hp) (p : Addr) (g : Sam.G) (a : Ad) (ws : List V) (z : Str) (D : List Sam.Wd) (rep : Nat → Sam.Wd), vs = [.ref p, .str z] ∧ GrAt C H0 H p g a ws ∧ Sam.Inv (Sam.LC D) g rep ∧ D ≠ [] ∧ (∀ x ∈ D, x.length ≤ 40) ∧ IsLet z ∧ z.length ≤ 40 ∧ g.n + 2 * z.length ≤ 880 ∧
  ∀ H' ds g' rep' l way, H l = none → Sam.Inv (Sam.LC (D ++ [TL.tl z])) g' rep' → g'.n ≤ g.n + 2 * z.length → g.n ≤ g'.n → (∀ x, x < g.n → rep' x = rep x) → WayOk g' rep' way (TL.tl z) → GrAt C (upd H0 l (.lst (natV way))) H' p g' { a with ds := ds } ws → Q (.ref l) H'
theorem sc_Growth__way_of : FnScope ["self", "text", "way", "state", "letter"] ["self", "text"] (defScope s_Growth__way_of) := ⟨rfl, rfl, rfl, by decide +kernel, rfl, by decide +kernel, by decide +kernel⟩
theorem ok_Growth__way_of (T : Txt K mg ea) (c_Growth__after : C8.Met P w K mg base 3 ea.c_Growth "_after" (spAfter ea.c_Growth) []) : C8.Met P w K mg base 4 ea.c_Growth "_way_of" (spWay ea.c_Growth) [] := by
  have nd := sc_Growth__way_of.nd
  refine met_of T.d_Growth__way_of T.l_Growth sc_Growth__way_of (fun vs H Q E h => ?_) (fun f cdv A outer s0 H vs Q E hr h => ?_)
  · obtain ⟨H0, p, g, a, ws, z, D, rep, rfl, _⟩ := h
    rfl
  · obtain ⟨H0, p, g, a, ws, z, D, rep, rfl, G, I, hD, hl, hz, zl, hn, q⟩ := h
    refine ⟨_, (pss_cons (ps_set (i := 2) nd rfl (.inl rfl) (pe_lst (pa_cons pe_int pa_nil)))
      (pss_cons (ps_set (i := 3) nd rfl (.inl rfl) pe_int)
      (pss_cons (ps_for PassesOwn.never rfl (pi_str (pv 1)) (pg_name (i := 4) nd rfl (.inl rfl))
        (pss_cons (ps_set (i := 3) nd rfl (.inl rfl) (C8.pe_mt c_Growth__after hr (by decide) (pv 0) (pa_cons (pv 3) (pa_cons (pv 4) pa_nil))))
          (pss_one (ps_expr (pe_bm PySem.F.plainAttrs_list PySem.F.slot_list_append PySem.F.type_list_append mt_append (pv 2) (pa_cons (pv 3) pa_nil))))))
      (pss_one (ps_ret (pv 2)))))), ?_⟩
    refine ⟨(by show 1 ≤ sizeLine; decide), fun l nl => ?_⟩
    have zs : z.cps.size = z.length := rfl
    have tlen : (TL.tl z).length = z.length := (TL.len_tl z).symm
    have nl0 : H0 l = none := G.sm.free nl
    refine ⟨_, rfl, z, rfl, for_it walk_str (fun i σ H' => ∃ (g' : Sam.G) (rep' : Nat → Sam.Wd) (ds : List Addr) (way : List Nat) (st : Nat) (yl : Option V), σ = [some (.ref p), some (.str z), some (.ref l), some (.int (st : Int)), yl] ∧
      Sam.Inv (Sam.LC (D ++ [(TL.tl z).take i])) g' rep' ∧ g'.n ≤ g.n + 2 * i ∧ g.n ≤ g'.n ∧ (∀ x, x < g.n → rep' x = rep x) ∧ st < g'.n ∧ rep' st = (TL.tl z).take i ∧ WayOk g' rep' way ((TL.tl z).take i) ∧ GrAt ea.c_Growth (upd H0 l (.lst (natV way))) H' p g' { a with ds := ds } ws)
      ⟨g, rep, a.ds, [0], 0, none, rfl, by rw [List.take_zero, Sam.lc_text hD]; exact I, by omega, Nat.le_refl _, fun _ _ => rfl, I.n0, by rw [List.take_zero]; exact I.r0, ⟨rfl, fun j hj => ?_⟩, G.add nl _⟩ (fun _ _ _ _ _ => trivial) (fun i x σ H1 H2 hi hW hy => ?_) (fun σ H' hW => ?_)⟩
    · rw [List.take_zero] at hj ⊢
      have : j = 0 := by simpa using hj
      subst this
      exact ⟨0, rfl, I.n0, I.r0⟩
    · obtain ⟨g', rep', ds, way, st, yl, rfl, I', n1, n2, hrep, hst, rst, wo, G'⟩ := hW
      obtain ⟨rfl, c, hc, rfl⟩ := hy
      have hc2 : (TL.tl z)[i]? = some c := by rw [← hc]; exact Array.getElem?_toList
      have hi2 : i < (TL.tl z).length := (List.getElem?_eq_some_iff.mp hc2).1
      have c127 : c < 127 := okc_lt (List.all_eq_true.mp hz c (List.mem_of_getElem? hc2))
      have tk : (TL.tl z).take (i + 1) = (TL.tl z).take i ++ [c] := by rw [List.take_add_one, hc2]; rfl
      have hDi : ∀ x ∈ D ++ [(TL.tl z).take i], x.length ≤ 40 := fun x hx => by
        rcases List.mem_append.mp hx with m | m
        · exact hl x m
        · rw [List.mem_singleton.mp m, List.length_take]; omega
      have rl : ∀ x, x < g'.n → (rep' x).length ≤ 40 := fun x hx => inner_len hDi (I'.mem hx).inner
      have O' := okg_of I' fun x hx => Nat.le_trans (rl x hx) (by decide)
      have szs : g'.sz st ≤ 40 := by rw [I'.sz st hst]; exact rl st hst
      have Gr := Sam.grow_of D ((TL.tl z).take i) c
      obtain ⟨rep2, I2, r2n, r2w, n2', keep⟩ := Sam.after_ok I' Gr hst rst
      have an := after_n g' st c
      refine ⟨_, rfl, p, _, _, rfl, G'.hp, rfl, _, rfl, _, rfl, _, p, g', _, ws, st, c, rfl, G', O', hst, c127, by omega, by omega, fun H3 ds3 G3 => ?_⟩
      have wl : way.length = i + 1 := by rw [wo.len, List.length_take]; omega
      refine ⟨_, rfl, .inl ⟨rfl, _, SqL.of G3.own⟩, _, rfl, l, _, _, rfl, rfl, G3.own, sz1000 (by rw [natV_len]; omega), ?_⟩
      have G4 := G3.set (.lst (natV way ++ [.int ((Sam.after g' st c).2 : Int)]))
      have e4 : natV way ++ [V.int ((Sam.after g' st c).2 : Int)] = natV (way ++ [(Sam.after g' st c).2]) := by rw [natV_app]; rfl
      rw [e4] at G4 ⊢
      refine ⟨(Sam.after g' st c).1, rep2, ds3, way ++ [(Sam.after g' st c).2], (Sam.after g' st c).2, _, rfl, by rw [tk]; exact I2, by omega, by omega, fun x hx => by rw [keep x (by omega), hrep x hx], r2n, by rw [tk]; exact r2w, ⟨?_, fun j hj => ?_⟩, G4⟩
      · rw [List.length_append, wl, tk, List.length_append, List.length_take]
        show i + 1 + 1 = min i _ + 1 + 1
        omega
      · rw [List.length_take] at hj
        by_cases hji : j ≤ i
        · obtain ⟨x, e1, e2, e3⟩ := wo.at_ j (by rw [List.length_take]; omega)
          refine ⟨x, by rw [List.getElem?_append_left (by omega)]; exact e1, by omega, ?_⟩
          rw [keep x e2, e3, List.take_take, List.take_take]
          congr 1
          omega
        · have : j = i + 1 := by omega
          subst this
          refine ⟨(Sam.after g' st c).2, ?_, r2n, ?_⟩
          · rw [List.getElem?_append_right (by omega), wl]
            simp
          · rw [r2w, ← tk, List.take_take, Nat.min_self]
    · obtain ⟨g', rep', ds, way, st, yl, rfl, I', n1, n2, hrep, hst, rst, wo, G'⟩ := hW
      rw [zs, List.take_of_length_le (by omega)] at I' wo
      exact ⟨_, rfl, q H' ds g' rep' l way nl I' (by rw [zs] at n1; exact n1) n2 hrep wo G'⟩
end

end SH
set_option Elab.async false
set_option linter.all false
set_option maxRecDepth 100000
set_option maxHeartbeats 4000000
namespace SH
open PySem PySem.Spec PyProof.Rows L2
section
variable {J : It} {n : Nat} {G : Hp → Prop} {Y : Nat → Hp → V → Hp → Prop}
/-- a dict comprehension whose steps only add to the heap -/
theorem dc_w (w : Walk J n G Y) {g : TG} {tt : TT} {tk tv : TE} {vs : List Nat} {τ : L2.St} {H1 : Hp} {D : Addr} {Qd : Hp → Prop} (hD : H1 D = none) (hG : ∀ H, Same H1 H → G H)
    (Pv : Nat → List (Key × V) → Prop) (p0 : Pv 0 []) (len : ∀ i kvs, i < n → Pv i kvs → kvs.length ≤ 2000) (hY : ∀ i H x H', Y i H x H' → Same H H')
    (hs : ∀ (i : Nat) (x : V) (kvs : List (Key × V)) (H H' : Hp) (Qk : V → V → Hp → Prop) (Qf : Hp → Prop), i < n → Same H1 H' → Y i H x H' → Pv i kvs → H' D = some (.dK kvs) → (∀ k z H5, Same H' H5 → Pv (i + 1) (putK kvs k z) → Qk (kV k) z H5) →
      g x (wipe τ vs) H' fun τ2 H2 => wipe τ2 vs = wipe τ vs ∧ tt τ2 H2 fun b H3 => if b = true then tk τ2 H3 fun y H4 => tv τ2 H4 fun z H5 => Qk y z H5 else Qf H3)
    (hd : ∀ kvs H, Same H1 H → H D = some (.dK kvs) → Pv n kvs → Qd H) :
    ∃ W : Nat → Nat → Hp → Prop, (∃ m, W 0 m (upd H1 D (.dK []))) ∧ ∀ i m H, W i m H →
      (J.stop i H ∧ Qd H) ∨ (J.go i H ∧ ∃ Nx : Hp → Prop, (∀ H', Nx H' → ∃ m', m' < m ∧ W (i + 1) m' H') ∧ ∀ x H', J.yld i H x H' → g x (wipe τ vs) H' fun τ2 H2 => wipe τ2 vs = wipe τ vs ∧ tt τ2 H2 fun b H3 =>
        if b = true then tk τ2 H3 fun y H4 => tv τ2 H4 fun z H5 => ∃ kvs k, y = kV k ∧ H5 D = some (.dK kvs) ∧ kvs.length < sizeLine ∧ Nx (upd H5 D (.dK (putK kvs k z))) else Nx H3) := by
  refine ⟨fun i m H => m = n - i ∧ i ≤ n ∧ ∃ kvs, Same H1 H ∧ H D = some (.dK kvs) ∧ Pv i kvs, ⟨n, by simp, Nat.zero_le _, [], same_new hD, upd_same, p0⟩, ?_⟩
  rintro i m H ⟨rfl, hi, kvs, sm, at_, p⟩
  by_cases hlt : i < n
  · refine .inr ⟨w.goes i H hlt (hG H sm), fun H' => ∃ kvs, Same H1 H' ∧ H' D = some (.dK kvs) ∧ Pv (i + 1) kvs, fun H' ⟨kvs', a, b, c⟩ => ⟨n - (i + 1), by omega, rfl, hlt, kvs', a, b, c⟩, fun x H' y => ?_⟩
    have y' := w.yields i H x H' hlt (hG H sm) y
    have e1 := hY i H x H' y'
    have at1 := e1 _ _ at_
    refine hs i x kvs H H' _ _ hlt (sm.trans e1) y' p at1 (fun k z H5 e2 p2 => ?_)
    have at2 := e2 _ _ at1
    exact ⟨kvs, k, rfl, at2, sz1000 (len i kvs hlt p), _, same_mut ((sm.trans e1).trans e2) hD, upd_same, p2⟩
  · have e : i = n := by omega
    subst e
    exact .inl ⟨w.stops H (hG H sm), hd kvs H sm at_ p⟩
end
theorem ltCps_one (c d : Nat) : ltCps [c] [d] = decide (c < d) := by
  show (decide (c < d) || (c == d && false)) = _
  rw [Bool.and_false, Bool.or_false]
theorem sorted_chr : ∀ cs : List Nat, sortedS (cs.map chr1) = true → cs.Pairwise (· ≤ ·) := by
  have key : ∀ (cs : List Nat) (p : Nat), risingS (chr1 p) (cs.map chr1) = true → (∀ x ∈ cs, p ≤ x) ∧ cs.Pairwise (· ≤ ·) := by
    intro cs
    induction cs with
    | nil => exact fun p _ => ⟨(fun x h => nomatch h), List.Pairwise.nil⟩
    | cons a r ih =>
      intro p h
      have h' : (!ltCps [a] [p] && risingS (chr1 a) (r.map chr1)) = true := h
      rw [ltCps_one, Bool.and_eq_true] at h'
      obtain ⟨i1, i2⟩ := ih a h'.2
      have pa : p ≤ a := by
        have := h'.1
        simp at this
        exact this
      refine ⟨fun x hx => ?_, List.pairwise_cons.mpr ⟨i1, i2⟩⟩
      rcases List.mem_cons.mp hx with e | m
      · rw [e]; exact pa
      · exact Nat.le_trans pa (i1 x m)
  intro cs h
  cases cs with
  | nil => exact List.Pairwise.nil
  | cons a r =>
    obtain ⟨i1, i2⟩ := key r a h
    exact List.pairwise_cons.mpr ⟨i1, i2⟩
theorem perm_chr {ys : List Str} {cs : List Nat} (h : ys.Perm (cs.map chr1)) : ∃ cs2 : List Nat, ys = cs2.map chr1 ∧ cs2.Perm cs := by
  let hd : Str → Nat := fun z => z.cps.toList.headD 0
  have e : ∀ l : List Nat, (l.map chr1).map hd = l := fun l => by
    rw [List.map_map]
    have : hd ∘ chr1 = id := funext fun c => rfl
    rw [this, List.map_id]
  refine ⟨ys.map hd, ?_, ?_⟩
  · rw [List.map_map]
    have : ys.map (chr1 ∘ hd) = ys.map id := List.map_congr_left fun y hy => by
      obtain ⟨c, _, rfl⟩ := List.mem_map.mp (h.mem_iff.mp hy)
      rfl
    rw [this, List.map_id]
  · have := h.map hd
    rwa [e] at this
/-- the letters of a dict, sorted -/
theorem letters {ys : List Str} {cs : List Nat} (perm : ys.Perm (cs.map chr1)) (srt : sortedS ys = true) (nd : cs.Nodup) : ∃ cs2 : List Nat, ys = cs2.map chr1 ∧ cs2.Perm cs ∧ cs2.Pairwise (· < ·) := by
  obtain ⟨cs2, e, p⟩ := perm_chr perm
  rw [e] at srt
  have nd2 : cs2.Nodup := p.symm.nodup nd
  refine ⟨cs2, e, p, ?_⟩
  have := (sorted_chr cs2 srt).and nd2
  exact this.imp fun ⟨h1, h2⟩ => Nat.lt_of_le_of_ne h1 h2
section
variable {P : Program} {w : World} {K : PySem.W.Frag} {mg : Str → Option Value} {base : Heap} {ea : Ea}
/-- edges to the new numbers of their classes -/
def spRen (K : PySem.W.Frag) : Sp := fun vs H Q _ => ∃ (dE dN : Addr) (kvs kn : List (Key × V)) (f : Nat → Option Nat) (num : Nat → Nat), vs = [.ref dE, .ref dN] ∧ H dE = some (.dK kvs) ∧ DRep kvs f ∧ H dN = some (.dK kn) ∧ kvs.length < 64 ∧
  (∀ c x, f c = some x → valV kn (.inl (x : Int)) = some (.int (num x : Int))) ∧
  ∀ H' d kvs', Same H H' → H d = none → H' d = some (.dK kvs') → DRep kvs' (fun c => (f c).map num) → Q (.ref d) H'
theorem sc__renamed : FnScope ["edges", "numbers", "letter"] ["edges", "numbers"] (defScope s__renamed) := ⟨rfl, rfl, rfl, by decide +kernel, rfl, by decide +kernel, by decide +kernel⟩
theorem ok__renamed (T : Txt K mg ea) : Cl P w K mg base 1 "_renamed" (spRen K) := by
  have nd := sc__renamed.nd
  refine cl_of T.d__renamed sc__renamed (fun vs H Q E h => ?_) (fun f0 cdv A outer s0 H vs Q E hr h => ?_)
  · obtain ⟨dE, dN, kvs, kn, f, num, rfl, _⟩ := h
    rfl
  · obtain ⟨dE, dN, kvs, kn, f, num, rfl, hE, rE, hN, h64, hf, q⟩ := h
    refine ⟨_, (pss_one (ps_ret (pe_dc (own := [("letter", 2)]) (g := (gName 2)) rfl nd (pi_listK (K := K) (pe_callB (call_sortedD rfl) (by rfl) T.b_sorted (by decide +kernel) (pa_cons (pv 0) pa_nil))) (blkOk_by (own := [("letter", 2)]) (N := ["edges", "numbers", "letter"]) (sc := defScope s__renamed) (by decide +kernel)) (fun _ _ _ _ _ => (pg_name (i := 2) nd rfl (.inl rfl))) (fun _ _ _ _ _ => pts_nil) (fun _ _ _ _ _ => (pv 2)) (fun _ _ _ _ _ => (pe_dget (hu_of hr) (pv 1) (pe_dget (hu_of hr) (pv 0) (pv 2) (fun _ _ => rfl)) (fun _ _ => rfl)))))), ?_⟩
    obtain ⟨cs, ek, ncs, mcs, c127⟩ := rE.keys
    refine ⟨_, rfl, dE, kvs, cs.map chr1, rfl, .inl hE, ek, ?_, fun ys l perm srt nl => ?_⟩
    · have := congrArg List.length ek
      simp at this
      simp
      omega
    obtain ⟨cs2, ecs2, perm2, asc⟩ := letters perm srt ncs
    have sl := same_new (o := .lst (ys.map V.str)) nl
    have yl : (ys.map V.str).length = cs2.length := by rw [ecs2]; simp
    refine ⟨l, rfl, ⟨_, SqL.of upd_same⟩, fun D nD => ?_⟩
    refine dc_w (walk_list (xs := ys.map V.str)) nD (fun H' e => SqL.of (e _ _ upd_same)) (fun i kvs' => DRep kvs' (fun c => if c ∈ cs2.take i then (f c).map num else none)) (DRep.nil.congr fun c => rfl) (fun i kvs' hi d => by have := d.len; omega) (fun i H x H' y => by rw [y.1]; exact Same.refl _)
      (fun i x kvs' H1 H2 Qk Qf hi sm y pv at_ kk => ?_) (fun kvs' H1 sm at_ pv => ?_)
    · obtain ⟨rfl, hx⟩ := y
      rw [yl] at hi
      rw [ecs2, List.map_map, List.getElem?_map, List.getElem?_eq_getElem hi] at hx
      have hx2 := Option.some.inj hx
      have hc : cs2[i]? = some cs2[i] := List.getElem?_eq_getElem hi
      generalize cs2[i] = c at hx2 hc
      subst hx2
      have hm := List.mem_of_getElem? hc
      obtain ⟨j, ej⟩ := (mcs c).mp (perm2.mem_iff.mp hm)
      have c1 := c127 c (perm2.mem_iff.mp hm)
      have smH := sl.trans sm
      have dg : DGet H2 dE (.str (chr1 c)) (some (.int (j : Int))) := by
        have := DGet.k (k := lkey c) (smH _ _ hE)
        rw [rE.vs c, ej] at this
        exact this
      have dn : DGet H2 dN (.int (j : Int)) (some (.int (num j : Int))) := by
        have := DGet.k (k := .inl (j : Int)) (smH _ _ hN)
        rw [hf c j ej] at this
        exact this
      refine ⟨rfl, _, rfl, _, rfl, _, rfl, _, rfl, dE, _, rfl, dg, dN, _, rfl, dn, ?_⟩
      refine kk (lkey c) _ _ (Same.refl _) ((pv.put c1 (num j)).congr fun d => ?_)
      have tk : cs2.take (i + 1) = cs2.take i ++ [c] := by rw [List.take_add_one, hc]; rfl
      rw [tk]
      by_cases e : d = c
      · rw [if_pos e, e, if_pos (by simp), ej]
        rfl
      · rw [if_neg e]
        by_cases m : d ∈ cs2.take i
        · rw [if_pos m, if_pos (List.mem_append_left _ m)]
        · rw [if_neg m, if_neg (fun z => (List.mem_append.mp z).elim m fun z => e (List.mem_singleton.mp z))]
    · refine q H1 D kvs' (sl.trans sm) (sl.free nD) at_ (pv.congr fun c => ?_)
      rw [yl, List.take_length]
      by_cases m : c ∈ cs2
      · rw [if_pos m]
      · rw [if_neg m]
        cases e : f c with
        | none => rfl
        | some j => exact absurd (perm2.mem_iff.mpr ((mcs c).mpr ⟨j, e⟩)) m
end

end SH
set_option Elab.async false
set_option linter.all false
set_option maxRecDepth 100000
set_option maxHeartbeats 4000000
namespace SH
open PySem PySem.Spec PyProof.Rows L2
section
variable {P : Program} {w : World} {K : PySem.W.Frag} {mg : Str → Option Value} {base : Heap} {ea : Ea}
/-- the numbers met -/
def Met (kvm : List (Key × V)) (os : List Nat) : Prop := (∀ x : Nat, (valV kvm (.inl (x : Int))).isSome = true ↔ x ∈ os) ∧ kvm.length ≤ os.length
theorem Met.put {kvm : List (Key × V)} {os : List Nat} (h : Met kvm os) (x : Nat) (v : V) : Met (putK kvm (.inl (x : Int)) v) (os ++ [x]) := by
  refine ⟨fun y => ?_, ?_⟩
  · rw [valV_put, List.mem_append, List.mem_singleton]
    by_cases e : (y : Int) = (x : Int)
    · rw [if_pos (by rw [e])]
      exact ⟨fun _ => .inr (by omega), fun _ => rfl⟩
    · rw [if_neg (fun z => e (Sum.inl.inj z)), h.1 y]
      exact ⟨.inl, fun q => q.elim id fun z => absurd (by rw [z]) e⟩
  · have := length_putK kvm (.inl (x : Int)) v
    rw [List.length_append]
    have := h.2
    simp
    omega
/-- few letters a class -/
def Few (g : Sam.G) : Prop := ∀ i, i < g.n → ∀ kvs, DRep kvs (g.ed i) → kvs.length < 64
def spBreadth (C : Addr) : Sp := fun vs H Q _ => ∃ (H0 : Hp) (p : Addr) (g : Sam.G) (a : Ad) (ws : List V) (D : List Sam.Wd) (rep : Nat → Sam.Wd), vs = [.ref p] ∧ GrAt C H0 H p g a ws ∧ Sam.Inv (Sam.LC D) g rep ∧ Few g ∧ g.n ≤ 1000 ∧
  ∀ H' l os at_, Same H H' → H l = none → H' l = some (.lst (natV os)) → Sam.Bf g rep os at_ (fun _ => False) → os.length ≤ at_ → Q (.ref l) H'
theorem sc_Growth__in_breadth : FnScope ["self", "order", "met", "at", "edges", "letter", "state"] ["self"] (defScope s_Growth__in_breadth) := ⟨rfl, rfl, rfl, by decide +kernel, rfl, by decide +kernel, by decide +kernel⟩
theorem ok_Growth__in_breadth (T : Txt K mg ea) : C8.Met P w K mg base 1 ea.c_Growth "_in_breadth" (spBreadth ea.c_Growth) [] := by
  have nd := sc_Growth__in_breadth.nd
  refine met_of T.d_Growth__in_breadth T.l_Growth sc_Growth__in_breadth (fun vs H Q E h => ?_) (fun f cdv A outer s0 H vs Q E hr h => ?_)
  · obtain ⟨H0, p, g, a, ws, D, rep, rfl, _⟩ := h
    rfl
  · obtain ⟨H0, p, g, a, ws, D, rep, rfl, G, I, few, hn, q⟩ := h
    refine ⟨_, (pss_cons (ps_set (i := 1) nd rfl (.inl rfl) (pe_lst (pa_cons pe_int pa_nil)))
      (pss_cons (ps_set (i := 2) nd rfl (.inl rfl) (pe_disp (pps_cons pe_int pe_bl pps_nil) (by rfl) (by rfl) (fun z => by cases z) (by decide)))
      (pss_cons (ps_set (i := 3) nd rfl (.inl rfl) pe_int)
      (pss_cons (ps_while PassesOwn.never (pt_cmpR op_lt (pv 3) (pe_callB call_len_seq (by rfl) T.b_len PySem.boot_len (pa_cons (pv 1) pa_nil)) (nomark _))
        (pss_cons (ps_set (i := 4) nd rfl (.inl rfl) (pe_ix (ixl (K := K)) (pe_fldK (K := K) (pv 0) rfl) (pe_ix (ixl (K := K)) (pv 1) (pv 3) (fun _ _ => rfl)) (fun _ _ => rfl)))
          (pss_cons (ps_for PassesOwn.never rfl (pi_listK (K := K) (pe_callB (call_sortedD rfl) (by rfl) T.b_sorted (by decide +kernel) (pa_cons (pv 4) pa_nil))) (pg_name (i := 5) nd rfl (.inl rfl))
            (pss_cons (ps_set (i := 6) nd rfl (.inl rfl) (pe_dget (hu_of hr) (pv 4) (pv 5) (fun _ _ => rfl)))
              (pss_one (ps_if (pt_cmp (pc_dnotin (hu_of hr) (pv 6) (pv 2)))
                (pss_cons (ps_dput (hu_of hr) (pv 2) (pv 6) pe_bl rfl)
                  (pss_one (ps_expr (pe_bm PySem.F.plainAttrs_list PySem.F.slot_list_append PySem.F.type_list_append mt_append (pv 1) (pa_cons (pv 6) pa_nil)))))
                pss_nil))))
          (pss_one (ps_aug (i := 3) nd rfl (.inl rfl) pe_int ip_add)))))
      (pss_one (ps_ret (pv 1))))))), ?_⟩
    refine ⟨(by show 1 ≤ sizeLine; decide), fun l nl => fun dm ndm => ⟨upd_same, [(.inl 0, .bl true)], rfl, by decide, ?_⟩⟩
    have ldm : l ≠ dm := ne_of_none (H := upd H l (.lst [.int 0])) upd_same ndm
    have ndm0 : H dm = none := by rw [upd_ne ldm.symm] at ndm; exact ndm
    generalize hH2 : upd (upd (upd H l (.lst [.int 0])) dm (.dK [])) dm (.dK (mergeK [] [(Sum.inl 0, V.bl true)])) = H2
    have sm2 : Same H H2 := by rw [← hH2]; exact same_mut (same_mut (same_mut (Same.refl _) nl) ndm0) ndm0
    have at2 : H2 l = some (.lst (natV [0])) := by rw [← hH2, upd_ne ldm, upd_ne ldm, upd_same]; rfl
    have dm2 : H2 dm = some (.dK [(Sum.inl 0, V.bl true)]) := by rw [← hH2, upd_same]; rfl
    have met0 : Met [(Sum.inl 0, V.bl true)] [0] := by
      refine ⟨fun x => ?_, Nat.le_refl _⟩
      rw [List.mem_singleton]
      by_cases e : x = 0
      · subst e
        exact ⟨fun _ => rfl, fun _ => by rw [show ((0 : Nat) : Int) = 0 from rfl, valV_pos rfl]; rfl⟩
      · rw [valV_neg (fun z => e (by have : (0 : Int) = (x : Int) := Sum.inl.inj z; omega)), valV_nil]
        exact ⟨(fun z => by cases z), fun z => absurd z e⟩
    -- the loop
    let W : Nat → L2.St → Hp → Prop := fun m σ H' => ∃ (os : List Nat) (at_ : Nat) (kvm : List (Key × V)) (ye yl ys : Option V), σ = [some (.ref p), some (.ref l), some (.ref dm), some (.int (at_ : Int)), ye, yl, ys] ∧ Sam.Bf g rep os at_ (fun _ => False) ∧ at_ ≤ os.length ∧ Met kvm os ∧
      H' dm = some (.dK kvm) ∧ Same H H' ∧ H' l = some (.lst (natV os)) ∧ m = g.n - at_
    refine ⟨W, ⟨_, [0], 0, _, none, none, none, rfl, Sam.Bf.start I, Nat.zero_le _, met0, dm2, sm2, at2, rfl⟩, fun m σ H' hW => ?_⟩
    obtain ⟨os, at_, kvm, ye, yl, ys0, rfl, B, hat, met, hdm, sm, atl, em⟩ := hW
    have onl := Sam.Bf.len_le I B
    refine ⟨_, rfl, _, rfl, l, _, rfl, .inl (SqL.of atl), _, _, rfl, rfl, _, rfl, ite2 (fun e => ?_) (fun e => ?_)⟩
    · have hlt : at_ < os.length := by
        have := of_decide_eq_true e
        rw [natV_len] at this
        omega
      have ey : os[at_]? = some os[at_] := List.getElem?_eq_getElem hlt
      generalize os[at_] = y at ey
      have yn := B.lt y (List.mem_of_getElem? ey)
      have G' := G.keep sm
      obtain ⟨d, kvs, dmm, d0, dI, hd, rd⟩ := G'.ed_at yn
      obtain ⟨cs, ek, ncs, mcs, c127⟩ := rd.keys
      have oy : atI (natV os) (at_ : Int) = some (.int (y : Int)) := atI_nat (by unfold natV; rw [List.getElem?_map, ey]; rfl)
      refine ⟨fun σ' H' => ∃ m', m' < m ∧ W m' σ' H', fun _ _ h => h, ?_⟩
      refine ⟨_, rfl, p, _, _, _, _, rfl, G'.hp, T.l_Growth, T.n_Growth_edges, fl_edges a, _, rfl, _, rfl, l, _, _, _, rfl, rfl, SqL.of atl, oy, a.E, _, _, _, rfl, rfl, SqL.of G'.hE, dI, ?_⟩
      refine ⟨_, rfl, d, kvs, cs.map chr1, rfl, .inl hd, ek, ?_, fun ys sl perm srt nsl => ?_⟩
      · have := few y yn kvs rd
        have e2 := congrArg List.length ek
        simp at e2
        simp
        omega
      obtain ⟨cs2, ecs2, perm2, asc⟩ := letters perm srt ncs
      have ysl : (ys.map V.str).length = cs2.length := by rw [ecs2]; simp
      have lsl : sl ≠ l := fun z => by rw [z, atl] at nsl; cases nsl
      have dsl : sl ≠ dm := fun z => by rw [z, hdm] at nsl; cases nsl
      have dsd : sl ≠ d := fun z => by rw [z, hd] at nsl; cases nsl
      have nsl0 := sm.free nsl
      refine ⟨sl, rfl, ⟨_, SqL.of upd_same⟩, ?_⟩
      refine for_list (K := K) (a := sl) (xs := ys.map V.str) (fun i σ H3 => ∃ (os' : List Nat) (kvm' : List (Key × V)) (yl ys' : Option V), σ = [some (.ref p), some (.ref l), some (.ref dm), some (.int (at_ : Int)), some (.ref d), yl, ys'] ∧
        Sam.Bf g rep os' at_ (fun c => c ∈ cs2.take i) ∧ os'[at_]? = some y ∧ Met kvm' os' ∧ H3 dm = some (.dK kvm') ∧ Same H H3 ∧ H3 l = some (.lst (natV os')) ∧ H3 sl = some (.lst (ys.map V.str)))
        ⟨os, kvm, yl, ys0, rfl, by simpa using B, ey, met, by rw [upd_ne dsl.symm]; exact hdm, sm.trans (same_new nsl), by rw [upd_ne lsl.symm]; exact atl, upd_same⟩ (fun i σ H3 _ hW => ?_) (fun i x σ H3 hx hW => ?_) (fun σ H3 hW => ?_)
      · obtain ⟨os', kvm', yl, ys', rfl, _, _, _, _, _, _, h8⟩ := hW
        exact SqL.of h8
      · obtain ⟨os', kvm', yl, ys', rfl, B', ey', met', hdm', sm', atl', hsl⟩ := hW
        rw [ecs2, List.map_map] at hx
        have hi : i < cs2.length := by
          have := (List.getElem?_eq_some_iff.mp hx).1
          simpa using this
        rw [List.getElem?_map, List.getElem?_eq_getElem hi] at hx
        have hx2 := Option.some.inj hx
        have hc : cs2[i]? = some cs2[i] := List.getElem?_eq_getElem hi
        have below : ∀ b, b ∈ cs2.take i → b < cs2[i] := fun b hb => by
          obtain ⟨j, hj, ej⟩ := List.mem_take_iff_getElem.mp hb
          rw [← ej]
          exact List.pairwise_iff_getElem.mp asc j i (by omega) hi (by omega)
        generalize cs2[i] = c at hx2 hc below
        subst hx2
        have hm := List.mem_of_getElem? hc
        obtain ⟨x, ex⟩ := (mcs c).mp (perm2.mem_iff.mp hm)
        obtain ⟨xn, B2⟩ := Sam.Bf.step I B' ey' ex below
        have tk : cs2.take (i + 1) = cs2.take i ++ [c] := by rw [List.take_add_one, hc]; rfl
        have PP : (fun b => b ∈ cs2.take i ∨ b = c) = fun b => b ∈ cs2.take (i + 1) := funext fun b => propext (by rw [tk, List.mem_append, List.mem_singleton])
        rw [PP] at B2
        have G3 := G.keep sm'
        obtain ⟨d', kvs', _, d0', dI', hd', rd'⟩ := G3.ed_at yn
        have dd : d' = d := by rw [d0] at d0'; exact (Option.some.inj d0').symm
        subst dd
        have dg : DGet H3 d' (.str (chr1 c)) (some (.int (x : Int))) := by
          have := DGet.k (k := lkey c) hd'
          rw [rd'.vs c, ex] at this
          exact this
        have di : DGet H3 dm (.int (x : Int)) (valV kvm' (.inl (x : Int))) := DGet.k (k := .inl (x : Int)) hdm'
        have onl' := Sam.Bf.len_le I B'
        refine ⟨_, rfl, _, rfl, d', _, rfl, dg, ?_⟩
        refine ⟨_, rfl, _, rfl, dm, _, rfl, di, ?_⟩
        by_cases xm : x ∈ os'
        · have e9 := (met'.1 x).mpr xm
          rw [e9]
          rw [if_pos xm] at B2
          exact ⟨_, rfl, iteF ⟨os', kvm', _, _, rfl, B2, ey', met', hdm', sm', atl', hsl⟩⟩
        · have e9 : (valV kvm' (.inl (x : Int))).isSome = false := by
            cases e : (valV kvm' (.inl (x : Int))).isSome with
            | false => rfl
            | true => exact absurd ((met'.1 x).mp e) xm
          rw [e9]
          rw [if_neg xm] at B2
          refine ⟨_, rfl, iteT ⟨_, rfl, _, rfl, dm, _, rfl, DPut.k (k := .inl (x : Int)) hdm' (sz1000 (by have := met'.2; omega)), ?_⟩⟩
          have at4 : (upd H3 dm (.dK (putK kvm' (.inl (x : Int)) (.bl true)))) l = some (.lst (natV os')) := by rw [upd_ne ldm]; exact atl'
          refine ⟨_, rfl, .inl ⟨rfl, _, SqL.of at4⟩, _, rfl, l, _, _, rfl, rfl, at4, sz1000 (by rw [natV_len]; omega), ?_⟩
          refine ⟨os' ++ [x], putK kvm' (.inl (x : Int)) (.bl true), _, _, rfl, B2, by rw [List.getElem?_append_left (List.getElem?_eq_some_iff.mp ey').1]; exact ey', met'.put x _, by rw [upd_ne ldm.symm, upd_same], same_mut (same_mut sm' ndm0) nl, by rw [upd_same, natV_app]; rfl, ?_⟩
          rw [upd_ne lsl, upd_ne dsl]
          exact hsl
      · obtain ⟨os', kvm', yl, ys', rfl, B', ey', met', hdm', sm', atl', hsl⟩ := hW
        rw [ysl, List.take_length] at B'
        have B2 := Sam.Bf.next I B' ey' fun c hc => perm2.mem_iff.mpr ((mcs c).mpr hc)
        have ol := (List.getElem?_eq_some_iff.mp ey').1
        have onl' := Sam.Bf.len_le I B'
        refine ⟨_, rfl, _, _, rfl, rfl, g.n - (at_ + 1), by omega, os', at_ + 1, kvm', _, _, _, rfl, B2, by omega, met', hdm', sm', atl', rfl⟩
    · have hge : os.length ≤ at_ := by
        have : ¬ (at_ : Int) < ((natV os).length : Int) := fun z => e (decide_eq_true z)
        rw [natV_len] at this
        omega
      exact ⟨_, rfl, q H' l os at_ sm nl atl B hge⟩
end

end SH
set_option Elab.async false
set_option linter.all false
set_option maxRecDepth 100000
set_option maxHeartbeats 4000000
namespace SH
open PySem PySem.Spec PyProof.Rows L2
theorem fp_edges (a : Ad) (x : Addr) : putF "edges" (.ref x) (flds a) = flds { a with E := x } := rfl
theorem fp_sizes (a : Ad) (x : Addr) : putF "sizes" (.ref x) (flds a) = flds { a with S := x } := rfl
theorem fp_links (a : Ad) (x : Addr) : putF "links" (.ref x) (flds a) = flds { a with L := x } := rfl
theorem fp_ways (a : Ad) (x : Addr) : putF "ways" (.ref x) (flds a) = flds { a with W := x } := rfl
theorem But.same {D : Addr} {H H' H2 : Hp} (h : But D H H') (s : Same H' H2) : But D H H2 := fun b o n e => s _ _ (h b o n e)
theorem But.frame {D : Addr} {H0 H H' : Hp} (s : Same H0 H) (h : But D H H') (n : H0 D = none) : Same H0 H' := fun b o e => h b o (fun z => by rw [z, n] at e; cases e) (s _ _ e)
theorem But.upd_ {D : Addr} {H H' : Hp} (h : But D H H') (x : HO) : But D H (upd H' D x) := fun b o n e => by
  rw [upd_ne n]
  exact h b o n e
/-- tuples of a number and a list of classes -/
abbrev WT := List (Addr × Addr × Int × List Nat)
def wrefs (T : WT) : List V := T.map fun q => .ref q.1
def WAt (H : Hp) (T : WT) : Prop := ∀ q ∈ T, H q.1 = some (.tup [.int q.2.2.1, .ref q.2.1]) ∧ H q.2.1 = some (.lst (natV q.2.2.2))
theorem WAt.same {H H' : Hp} {T : WT} (h : WAt H T) (s : Same H H') : WAt H' T := fun q m => ⟨s _ _ (h q m).1, s _ _ (h q m).2⟩
section
variable {P : Program} {w : World} {K : PySem.W.Frag} {mg : Str → Option Value} {base : Heap} {ea : Ea}
def spPut (C : Addr) : Sp := fun vs H Q _ => ∃ (H0 : Hp) (p : Addr) (g : Sam.G) (a : Ad) (T : WT) (D : List Sam.Wd) (rep : Nat → Sam.Wd), vs = [.ref p] ∧ GrAt C H0 H p g a (wrefs T) ∧ WAt H T ∧ (∀ q ∈ T, q.2.2.2.length ≤ 100 ∧ ∀ x ∈ q.2.2.2, x < g.n) ∧ T.length ≤ 1000 ∧ Sam.Inv (Sam.LC D) g rep ∧ Few g ∧ g.n ≤ 1000 ∧
  ∀ H' os at_ a' T', Sam.Bf g rep os at_ (fun _ => False) → os.length ≤ at_ → GrAt C H0 H' p (Sam.reG g os) a' (wrefs T') → WAt H' T' → T'.map (·.2.2) = T.map (fun q => (q.2.2.1, q.2.2.2.map fun x => os.idxOf x)) → Q .non H'
theorem sc_Growth__put_in_order : FnScope ["self", "order", "numbers", "links", "at", "state", "link", "number", "way"] ["self"] (defScope s_Growth__put_in_order) := ⟨rfl, rfl, rfl, by decide +kernel, rfl, by decide +kernel, by decide +kernel⟩
theorem ok_Growth__put_in_order (T : Txt K mg ea) (c_Growth__in_breadth : C8.Met P w K mg base 1 ea.c_Growth "_in_breadth" (spBreadth ea.c_Growth) []) (c__renamed : Cl P w K mg base 1 "_renamed" (spRen K)) : C8.Met P w K mg base 2 ea.c_Growth "_put_in_order" (spPut ea.c_Growth) [] := by
  have nd := sc_Growth__put_in_order.nd
  refine met_of T.d_Growth__put_in_order T.l_Growth sc_Growth__put_in_order (fun vs H Q E h => ?_) (fun f cdv A outer s0 H vs Q E hr h => ?_)
  · obtain ⟨H0, p, g, a, T1, D, rep, rfl, _⟩ := h
    rfl
  · obtain ⟨H0, p, g, a, T1, D, rep, rfl, G, wa, hT, hTl, I, few, hn, q⟩ := h
    refine ⟨_, (pss_cons (ps_set (i := 1) nd rfl (.inl rfl) (C8.pe_mt0 c_Growth__in_breadth hr (by decide) (pv 0)))
      (pss_cons (ps_set (i := 2) nd rfl (.inr rfl) (pe_dc (own := [("at", 4), ("state", 5)]) (g := (gTup K 2 (gCons (gName 4) (gCons (gName 5) gNil)))) rfl nd (pi_enum (by rfl) T.b_enumerate (pa_cons (pv 1) pa_nil)) (blkOk_by (own := [("at", 4), ("state", 5)]) (N := ["self", "order", "numbers", "links", "at", "state", "link", "number", "way"]) (sc := defScope s_Growth__put_in_order) (by decide +kernel)) (fun _ _ _ _ _ => (pg_tup rfl (pgs_cons (pg_name (i := 4) nd rfl (.inl rfl)) (pgs_cons (pg_name (i := 5) nd rfl (.inl rfl)) pgs_nil)))) (fun _ _ _ _ _ => pts_nil) (fun _ _ _ _ _ => (pv 5)) (fun _ _ _ _ _ => (pv 4))))
      (pss_cons (ps_setLc (i := 3) (own := [("state", 5)]) (g := (gName 5)) rfl nd rfl rfl (sw_true rfl rfl rfl (by decide +kernel)) (pi_listK (K := K) (pv 1)) (blkOk_by (own := [("state", 5)]) (N := ["self", "order", "numbers", "links", "at", "state", "link", "number", "way"]) (sc := defScope s_Growth__put_in_order) (by decide +kernel)) (fun _ _ _ _ _ => (pg_name (i := 5) nd rfl (.inl rfl))) (fun _ _ _ _ _ => pts_nil) (fun _ _ _ _ _ => (pe_ix (ixl (K := K)) (pe_fldK (K := K) (pv 0) rfl) (pv 5) (fun _ _ => rfl))))
      (pss_cons (ps_fld (pv 0) (pe_lc (own := [("state", 5)]) (g := (gName 5)) rfl nd (pi_listK (K := K) (pv 1)) (blkOk_by (own := [("state", 5)]) (N := ["self", "order", "numbers", "links", "at", "state", "link", "number", "way"]) (sc := defScope s_Growth__put_in_order) (by decide +kernel)) (fun _ _ _ _ _ => (pg_name (i := 5) nd rfl (.inl rfl))) (fun _ _ _ _ _ => pts_nil) (fun _ _ _ _ _ => (C8.pe_c c__renamed hr (by decide) (by rfl) (pa_cons (pe_ix (ixl (K := K)) (pe_fldK (K := K) (pv 0) rfl) (pv 5) (fun _ _ => rfl)) (pa_cons (pv 2) pa_nil))))) rfl)
      (pss_cons (ps_fld (pv 0) (pe_lc (own := [("state", 5)]) (g := (gName 5)) rfl nd (pi_listK (K := K) (pv 1)) (blkOk_by (own := [("state", 5)]) (N := ["self", "order", "numbers", "links", "at", "state", "link", "number", "way"]) (sc := defScope s_Growth__put_in_order) (by decide +kernel)) (fun _ _ _ _ _ => (pg_name (i := 5) nd rfl (.inl rfl))) (fun _ _ _ _ _ => pts_nil) (fun _ _ _ _ _ => (pe_ix (ixl (K := K)) (pe_fldK (K := K) (pv 0) rfl) (pv 5) (fun _ _ => rfl)))) rfl)
      (pss_cons (ps_fld (pv 0) (pe_lc (own := [("link", 6)]) (g := (gName 6)) rfl nd (pi_listK (K := K) (pv 3)) (blkOk_by (own := [("link", 6)]) (N := ["self", "order", "numbers", "links", "at", "state", "link", "number", "way"]) (sc := defScope s_Growth__put_in_order) (by decide +kernel)) (fun _ _ _ _ _ => (pg_name (i := 6) nd rfl (.inl rfl))) (fun _ _ _ _ _ => pts_nil) (fun _ _ _ _ _ => (pe_ifExp (pt_cmpR op_isN (pv 6) pe_non (nomark _)) pe_non (pe_dget (hu_of hr) (pv 2) (pv 6) (fun _ _ => rfl))))) rfl)
      (pss_one (ps_fld (pv 0) (pe_lc (own := [("number", 7), ("way", 8)]) (g := (gTup K 2 (gCons (gName 7) (gCons (gName 8) gNil)))) rfl nd (pi_listK (K := K) (pe_fldK (K := K) (pv 0) rfl)) (blkOk_by (own := [("number", 7), ("way", 8)]) (N := ["self", "order", "numbers", "links", "at", "state", "link", "number", "way"]) (sc := defScope s_Growth__put_in_order) (by decide +kernel)) (fun _ _ _ _ _ => (pg_tup rfl (pgs_cons (pg_name (i := 7) nd rfl (.inl rfl)) (pgs_cons (pg_name (i := 8) nd rfl (.inl rfl)) pgs_nil)))) (fun _ _ _ _ _ => pts_nil) (fun _ _ _ _ _ => (pe_tup (pa_cons (pv 7) (pa_cons (pe_lc (own := [("state", 5)]) (g := (gName 5)) rfl nd (pi_listK (K := K) (pv 8)) (blkOk_by (own := [("state", 5)]) (N := ["self", "order", "numbers", "links", "at", "state", "link", "number", "way"]) (sc := _) (by rfl)) (fun _ _ _ _ _ => (pg_name (i := 5) nd rfl (.inl rfl))) (fun _ _ _ _ _ => pts_nil) (fun _ _ _ _ _ => (pe_dget (hu_of hr) (pv 2) (pv 5) (fun _ _ => rfl)))) pa_nil))))) rfl)))))))), ?_⟩
    -- the order
    refine ⟨_, rfl, p, _, _, rfl, G.hp, rfl, H0, p, g, a, _, D, rep, rfl, G, I, few, hn, fun H1 l os at_ s1 nl atl B hat => ?_⟩
    have full : ∀ x, x < g.n → x ∈ os := fun x hx => Sam.Bf.full I B hat _ (Nat.le_refl _) hx
    have olen := Sam.re_len B.nd B.lt full
    -- the numbers
    refine ⟨_, rfl, l, _, rfl, SqL.of atl, fun dN ndN => ?_⟩
    refine dc_w (walk_enum (K := K) (a := l) (xs := natV os)) ndN (fun H' e => SqL.of (e _ _ atl)) (fun i kvs => kvs.length ≤ i ∧ ∀ j, j < i → ∀ x, os[j]? = some x → valV kvs (.inl (x : Int)) = some (.int (j : Int))) ⟨Nat.le_refl _, fun j h => absurd h (Nat.not_lt_zero _)⟩ (fun i kvs hi d => by have := d.1; rw [natV_len] at hi; omega) (fun i H x H' y => ?_)
      (fun i x kvs H2 H3 Qk Qf hi sm y pv at_ kk => ?_) (fun kn H2 sm2 atN pv => ?_)
    · obtain ⟨t, x, y, rfl, nt, rfl, _⟩ := y
      exact same_new nt
    · obtain ⟨t, x, y, rfl, nt, rfl, e1, e2⟩ := y
      cases e1
      rw [natV_len] at hi
      have e2 : (natV os)[i]? = some y := e2
      unfold natV at e2
      rw [List.getElem?_map, List.getElem?_eq_getElem hi] at e2
      have e3 := Option.some.inj e2
      have eo : os[i]? = some os[i] := List.getElem?_eq_getElem hi
      generalize os[i] = x at e3 eo
      subst e3
      refine ⟨_, _, rfl, .inl (.inl upd_same), rfl, _, _, rfl, _, _, rfl, rfl, rfl, ?_⟩
      refine ⟨_, rfl, _, rfl, ?_⟩
      refine kk (.inl (x : Int)) _ _ (Same.refl _) ⟨?_, fun j hj x' ex => ?_⟩
      · have := length_putK kvs (.inl (x : Int)) (.int (i : Int))
        have := pv.1
        omega
      · rw [valV_put]
        by_cases z : j = i
        · subst z
          rw [eo] at ex
          rw [← Option.some.inj ex, if_pos rfl]
        · rw [if_neg (fun y => z ?_)]
          · exact pv.2 j (by omega) x' ex
          · have : x' = x := by have := Sum.inl.inj y; omega
            subst this
            exact (List.getElem?_inj (List.getElem?_eq_some_iff.mp ex).1 B.nd).mp (ex.trans eo.symm)
    have hnum : ∀ x, x < g.n → valV kn (.inl (x : Int)) = some (.int ((os.idxOf x : Nat) : Int)) := fun x hx => by
      have h1 := List.idxOf_lt_length_of_mem (full x hx)
      refine pv.2 _ (by rw [natV_len]; exact h1) x ?_
      rw [List.getElem?_eq_getElem h1, List.getElem_idxOf]
    have dnum : ∀ {H' : Hp} {x : Nat}, H' dN = some (.dK kn) → x < g.n → DGet H' dN (.int (x : Int)) (some (.int ((os.idxOf x : Nat) : Int))) := fun {H' x} h hx => by
      have := DGet.k (k := .inl (x : Int)) h
      rw [hnum x hx] at this
      exact this
    have G2 := (G.keep s1).keep sm2
    have wa2 := (wa.same s1).same sm2
    have atl2 := sm2 _ _ atl
    have oi : ∀ {i : Nat}, i < os.length → ∃ x, os[i]? = some x ∧ x < g.n ∧ (natV os)[i]? = some (.int (x : Int)) ∧ os.getD i 0 = x := fun {i} hi => by
      have e : os[i]? = some os[i] := List.getElem?_eq_getElem hi
      refine ⟨os[i], e, B.lt _ (List.getElem_mem hi), by unfold natV; rw [List.getElem?_map, e]; rfl, by rw [List.getD_eq_getElem?_getD, e]; rfl⟩
    have nlen : (natV os).length = os.length := natV_len os
    -- the links as they stand
    refine ⟨_, rfl, l, rfl, ⟨_, SqL.of atl2⟩, fun ll nll => ?_⟩
    refine lc_w (walk_list (xs := natV os)) nll (by omega) (fun H' e => SqL.of (e _ _ atl2)) (fun i acc _ => acc = (List.range i).map fun k => optN (g.lk (os.getD k 0))) (fun _ _ => rfl) (fun _ _ _ _ _ _ _ r => r) (fun i H x H' y => by rw [y.1]; exact Same.refl _)
      (fun i x acc H3 H4 Qn Qf hi sm y r at_ kn_ kf => ?_) (fun accL H3 sm3 atll _ rl => ?_)
    · obtain ⟨rfl, hx⟩ := y
      obtain ⟨x, ex, xn, ex2, eg⟩ := oi (i := i) (by omega)
      rw [ex2] at hx
      cases hx
      have G3 := G2.keep sm
      refine ⟨rfl, _, rfl, p, _, _, _, _, rfl, G3.hp, T.l_Growth, T.n_Growth_links, fl_links a, _, rfl, a.L, _, _, _, rfl, rfl, SqL.of G3.hL, links_at xn, ?_⟩
      refine kn_ _ _ (Same.refl _) ?_
      rw [r, List.range_succ, List.map_append, eg.symm]
      rfl
    have G3 := G2.keep sm3
    have atl3 := sm3 _ _ atl2
    have atN3 := sm3 _ _ atN
    -- the edges
    refine ⟨_, rfl, l, rfl, ⟨_, SqL.of atl3⟩, fun E1 nE1 => ?_⟩
    refine lc_w (walk_list (xs := natV os)) nE1 (by omega) (fun H' e => SqL.of (e _ _ atl3)) (fun i acc H' => ∃ ds : List Addr, acc = ds.map V.ref ∧ ds.length = i ∧ ds.Nodup ∧ ∀ k d, ds[k]? = some d → H3 d = none ∧ ∃ kvs, H' d = some (.dK kvs) ∧ DRep kvs (fun c => (g.ed (os.getD k 0) c).map fun x => os.idxOf x)) (fun _ _ => ⟨[], rfl, rfl, by simp, fun k d h => by simp at h⟩) (fun i acc H5 H6 l0 h0 but r => ?_) (fun i H x H' y => by rw [y.1]; exact Same.refl _)
      (fun i x acc H5 H6 Qn Qf hi sm y r at_ kn_ kf => ?_) (fun accE H5 sm5 atE _ rE => ?_)
    · obtain ⟨ds, r1, r2, r3, r4⟩ := r
      refine ⟨ds, r1, r2, r3, fun k d e => ?_⟩
      obtain ⟨h1, kvs, h2, h3⟩ := r4 k d e
      exact ⟨h1, kvs, but _ _ (fun z => by rw [z, h0] at h2; cases h2) h2, h3⟩
    · obtain ⟨rfl, hx⟩ := y
      obtain ⟨x, ex, xn, ex2, eg⟩ := oi (i := i) (by omega)
      rw [ex2] at hx
      cases hx
      have G4 := G3.keep sm
      obtain ⟨ds, r1, r2, r3, r4⟩ := r
      obtain ⟨d, kvs, dm, d0, dI, hd, rd⟩ := G4.ed_at xn
      refine ⟨rfl, _, rfl, p, _, _, _, _, rfl, G4.hp, T.l_Growth, T.n_Growth_edges, fl_edges a, _, rfl, a.E, _, _, _, rfl, rfl, SqL.of G4.hE, dI, _, rfl, d, dN, kvs, kn, g.ed x, fun x => os.idxOf x, rfl, hd, rd, sm _ _ atN3, few x xn kvs rd, fun c y ey => ?_, fun H7 d2 kvs2 s7 nd2 at7 r7 => ?_⟩
      · exact hnum y ((I.ed x xn c y).mp ey).1
      · have d2n : d2 ∉ ds := fun m => by
          obtain ⟨k, hk, ek⟩ := List.getElem_of_mem m
          obtain ⟨_, kvs3, h2, _⟩ := r4 k d2 (by rw [List.getElem?_eq_getElem hk, ek])
          rw [nd2] at h2
          cases h2
        refine kn_ _ _ s7 ⟨ds ++ [d2], by rw [r1, List.map_append]; rfl, by rw [List.length_append, r2]; rfl, ?_, fun k d' e => ?_⟩
        · rw [List.nodup_append]
          exact ⟨r3, by simp, fun x hx y hy z => by rw [List.mem_singleton.mp hy] at z; exact d2n (z ▸ hx)⟩
        · by_cases hk : k < ds.length
          · rw [List.getElem?_append_left hk] at e
            obtain ⟨h1, kvs3, h2, h3⟩ := r4 k d' e
            exact ⟨h1, kvs3, s7 _ _ h2, h3⟩
          · rw [List.getElem?_append_right (by omega)] at e
            have z := (List.getElem?_eq_some_iff.mp e).1
            have z1 : k - ds.length < 1 := z
            have z2 : k = i := by omega
            have z3 : k - ds.length = 0 := by omega
            rw [z3] at e
            have : d2 = d' := Option.some.inj e
            subst this
            refine ⟨sm.free nd2, kvs2, at7, ?_⟩
            rw [z2, eg]
            exact r7
    obtain ⟨ds, rE1, rE2, rE3, rE4⟩ := rE
    have G5 := G3.keep sm5
    refine ⟨_, rfl, p, _, _, _, rfl, G5.hp, T.l_Growth, T.n_Growth_edges, (by show 4 < 1000; decide), ?_⟩
    rw [fp_edges]
    -- the sizes
    have b5 : But p H5 (upd H5 p (.ins ea.c_Growth a.dx (flds { a with E := E1 }))) := but_upd
    have at5 : (upd H5 p (.ins ea.c_Growth a.dx (flds { a with E := E1 }))) p = some (.ins ea.c_Growth a.dx (flds { a with E := E1 })) := upd_same
    generalize upd H5 p (.ins ea.c_Growth a.dx (flds { a with E := E1 })) = H5' at b5 at5 ⊢
    obtain ⟨pE, pS, pL, pW⟩ := G5.pL
    have ne5 : ∀ {b : Addr} {xs : List V}, H5 b = some (.lst xs) → b ≠ p := fun {b xs} h z => by rw [z, G5.hp] at h; cases h
    have L5 : ∀ {b : Addr} {xs : List V}, H5 b = some (.lst xs) → H5' b = some (.lst xs) := fun h => b5 _ _ (ne5 h) h
    have atl5 := L5 (sm5 _ _ atl3)
    have hS5 := L5 G5.hS
    refine ⟨_, rfl, l, rfl, ⟨_, SqL.of atl5⟩, fun S1 nS1 => ?_⟩
    refine lc_w (walk_list (xs := natV os)) nS1 (by omega) (fun H' e => SqL.of (e _ _ atl5)) (fun i acc _ => acc = (List.range i).map fun k => V.int ((g.sz (os.getD k 0) : Nat) : Int)) (fun _ _ => rfl) (fun _ _ _ _ _ _ _ r => r) (fun i H x H' y => by rw [y.1]; exact Same.refl _)
      (fun i x acc H7 H8 Qn Qf hi sm y r at_ kn_ kf => ?_) (fun accS H7 sm7 atS _ rS => ?_)
    · obtain ⟨rfl, hx⟩ := y
      obtain ⟨x, ex, xn, ex2, eg⟩ := oi (i := i) (by omega)
      rw [ex2] at hx
      cases hx
      refine ⟨rfl, _, rfl, p, _, _, _, _, rfl, sm _ _ at5, T.l_Growth, T.n_Growth_sizes, fl_sizes _, _, rfl, a.S, _, _, _, rfl, rfl, SqL.of (sm _ _ hS5), sizes_at xn, ?_⟩
      refine kn_ _ _ (Same.refl _) ?_
      rw [r, List.range_succ, List.map_append, eg.symm]
      rfl
    have at7 := sm7 _ _ at5
    refine ⟨_, rfl, p, _, _, _, rfl, at7, T.l_Growth, T.n_Growth_sizes, (by show 4 < 1000; decide), ?_⟩
    rw [fp_sizes]
    -- the links
    have b7 : But p H5 (upd H7 p (.ins ea.c_Growth a.dx (flds { a with E := E1, S := S1 }))) := (b5.same sm7).upd_ _
    have atS7 : (upd H7 p (.ins ea.c_Growth a.dx (flds { a with E := E1, S := S1 }))) S1 = some (.lst accS) := by rw [upd_ne (fun z => by rw [z, at7] at atS; cases atS)]; exact atS
    have at7' : (upd H7 p (.ins ea.c_Growth a.dx (flds { a with E := E1, S := S1 }))) p = some (.ins ea.c_Growth a.dx (flds { a with E := E1, S := S1 })) := upd_same
    generalize upd H7 p (.ins ea.c_Growth a.dx (flds { a with E := E1, S := S1 })) = H7' at b7 atS7 at7' ⊢
    have L7 : ∀ {b : Addr} {xs : List V}, H5 b = some (.lst xs) → H7' b = some (.lst xs) := fun h => b7 _ _ (ne5 h) h
    have atll7 := L7 (sm5 _ _ atll)
    have atN7 : H7' dN = some (.dK kn) := b7 _ _ (fun z => by have := sm5 _ _ atN3; rw [z, G5.hp] at this; cases this) (sm5 _ _ atN3)
    have lkk : ∀ {i : Nat}, i < os.length → ((List.range (natV os).length).map fun k => optN (g.lk (os.getD k 0)))[i]? = some (optN (g.lk (os.getD i 0))) := fun {i} hi => by
      rw [List.getElem?_map, List.getElem?_range (by omega)]
      rfl
    rw [rl] at atll7
    refine ⟨_, rfl, ll, rfl, ⟨_, SqL.of atll7⟩, fun L1 nL1 => ?_⟩
    refine lc_w (walk_list (xs := (List.range (natV os).length).map fun k => optN (g.lk (os.getD k 0)))) nL1 (by rw [List.length_map, List.length_range]; omega) (fun H' e => SqL.of (e _ _ atll7)) (fun i acc _ => acc = (List.range i).map fun k => optN ((g.lk (os.getD k 0)).map fun x => os.idxOf x)) (fun _ _ => rfl) (fun _ _ _ _ _ _ _ r => r) (fun i H x H' y => by rw [y.1]; exact Same.refl _)
      (fun i x acc H8 H9 Qn Qf hi sm y r at_ kn_ kf => ?_) (fun acc9 H9 sm9 atL _ rL => ?_)
    · obtain ⟨rfl, hx⟩ := y
      rw [List.length_map, List.length_range] at hi
      obtain ⟨x, ex, xn, ex2, eg⟩ := oi (i := i) (by omega)
      rw [lkk (by omega)] at hx
      have hx := Option.some.inj hx
      have nxt : ∀ v, v = optN ((g.lk (os.getD i 0)).map fun x => os.idxOf x) → acc ++ [v] = (List.range (i + 1)).map fun k => optN ((g.lk (os.getD k 0)).map fun x => os.idxOf x) := fun v e => by
        rw [r, List.range_succ, List.map_append, e]
        rfl
      cases em : g.lk (os.getD i 0) with
      | none =>
        rw [em] at hx nxt
        subst hx
        exact ⟨rfl, _, rfl, rfl, _, rfl, kn_ _ _ (Same.refl _) (nxt _ rfl)⟩
      | some y =>
        rw [em] at hx nxt
        subst hx
        have yn : y < g.n := (I.dec (eg ▸ xn) em).1
        refine ⟨rfl, _, rfl, rfl, _, rfl, _, rfl, _, rfl, dN, _, rfl, dnum (sm _ _ atN7) yn, ?_⟩
        exact kn_ _ _ (Same.refl _) (nxt _ rfl)
    have at9 := sm9 _ _ at7'
    refine ⟨_, rfl, p, _, _, _, rfl, at9, T.l_Growth, T.n_Growth_links, (by show 4 < 1000; decide), ?_⟩
    rw [fp_links]
    -- the ways
    have b9 : But p H5 (upd H9 p (.ins ea.c_Growth a.dx (flds { a with E := E1, S := S1, L := L1 }))) := (b7.same sm9).upd_ _
    have atS9 : (upd H9 p (.ins ea.c_Growth a.dx (flds { a with E := E1, S := S1, L := L1 }))) S1 = some (.lst accS) := by
      have := sm9 _ _ atS7
      rw [upd_ne (fun z => by rw [z, at9] at this; cases this)]
      exact this
    have atL9 : (upd H9 p (.ins ea.c_Growth a.dx (flds { a with E := E1, S := S1, L := L1 }))) L1 = some (.lst acc9) := by rw [upd_ne (fun z => by rw [z, at9] at atL; cases atL)]; exact atL
    have at9' : (upd H9 p (.ins ea.c_Growth a.dx (flds { a with E := E1, S := S1, L := L1 }))) p = some (.ins ea.c_Growth a.dx (flds { a with E := E1, S := S1, L := L1 })) := upd_same
    generalize upd H9 p (.ins ea.c_Growth a.dx (flds { a with E := E1, S := S1, L := L1 })) = H9' at b9 atS9 atL9 at9' ⊢
    have L9 : ∀ {b : Addr} {xs : List V}, H5 b = some (.lst xs) → H9' b = some (.lst xs) := fun h => b9 _ _ (ne5 h) h
    have hW9 := L9 G5.hW
    have atN9 : H9' dN = some (.dK kn) := b9 _ _ (fun z => by have := sm5 _ _ atN3; rw [z, G5.hp] at this; cases this) (sm5 _ _ atN3)
    have wa9 : WAt H9' T1 := fun q m => by
      obtain ⟨h1, h2⟩ := (((wa2.same sm3).same sm5) q m)
      exact ⟨b9 _ _ (fun z => by rw [z, G5.hp] at h1; cases h1) h1, L9 h2⟩
    refine ⟨_, rfl, p, _, _, _, _, rfl, at9', T.l_Growth, T.n_Growth_ways, fl_ways _, a.W, rfl, ⟨_, SqL.of hW9⟩, fun W1 nW1 => ?_⟩
    have wl : (wrefs T1).length = T1.length := List.length_map ..
    refine lc_w (walk_list (xs := wrefs T1)) nW1 (by omega) (fun H' e => SqL.of (e _ _ hW9)) (fun i acc H' => ∃ T' : WT, acc = wrefs T' ∧ T'.map (·.2.2) = (T1.take i).map (fun q => (q.2.2.1, q.2.2.2.map fun x => os.idxOf x)) ∧ WAt H' T' ∧ ∀ q ∈ T', q.2.1 ≠ W1 ∧ q.1 ≠ W1) (fun _ _ => ⟨[], rfl, rfl, (fun q m => nomatch m), (fun q m => nomatch m)⟩) (fun i acc H5 H6 l0 h0 but r => ?_) (fun i H x H' y => by rw [y.1]; exact Same.refl _)
      (fun i x acc HA HB Qn Qf hi sm y r at_ kn_ kf => ?_) (fun accW HA smA atW _ rW => ?_)
    · obtain ⟨T', r1, r2, r3, r4⟩ := r
      exact ⟨T', r1, r2, fun q m => ⟨but _ _ (r4 q m).2 (r3 q m).1, but _ _ (r4 q m).1 (r3 q m).2⟩, r4⟩
    · obtain ⟨rfl, hx⟩ := y
      obtain ⟨T', r1, r2, r3, r4⟩ := r
      rw [wl] at hi
      have et : T1[i]? = some T1[i] := List.getElem?_eq_getElem hi
      unfold wrefs at hx
      rw [List.getElem?_map, et] at hx
      have hm : T1[i] ∈ T1 := List.getElem_mem hi
      generalize T1[i] = q1 at hx et hm
      have hx := Option.some.inj hx
      subst hx
      obtain ⟨w1, w2⟩ := (wa9.same sm) q1 hm
      obtain ⟨q1l, q1x⟩ := hT q1 hm
      refine ⟨_, _, rfl, .inl (.inl w1), rfl, _, _, rfl, _, _, rfl, rfl, rfl, ?_⟩
      refine ⟨_, rfl, _, rfl, q1.2.1, rfl, ⟨_, SqL.of w2⟩, fun D2 nD2 => ?_⟩
      have D2W : D2 ≠ W1 := fun z => by rw [z, at_] at nD2; cases nD2
      refine lc_w (walk_list (xs := natV q1.2.2.2)) nD2 (by rw [natV_len]; omega) (fun H' e => SqL.of (e _ _ w2)) (fun j acc2 _ => acc2 = natV ((q1.2.2.2.take j).map fun x => os.idxOf x)) (fun _ _ => rfl) (fun _ _ _ _ _ _ _ r => r) (fun i H x H' y => by rw [y.1]; exact Same.refl _)
        (fun j x acc2 HC HD Qn2 Qf2 hj sm2' y2 r2' at2' kn2 kf2 => ?_) (fun acc2 HC smC atC _ rC => ?_)
      · obtain ⟨rfl, hx2⟩ := y2
        rw [natV_len] at hj
        have ex : q1.2.2.2[j]? = some q1.2.2.2[j] := List.getElem?_eq_getElem hj
        have xm := q1x _ (List.getElem_mem hj)
        generalize q1.2.2.2[j] = x1 at ex xm
        unfold natV at hx2
        rw [List.getElem?_map, ex] at hx2
        have hx2 := Option.some.inj hx2
        subst hx2
        refine ⟨rfl, _, rfl, _, rfl, dN, _, rfl, dnum (sm2' _ _ (sm _ _ atN9)) xm, ?_⟩
        refine kn2 _ _ (Same.refl _) ?_
        rw [r2', List.take_add_one, ex, List.map_append, natV_app]
        rfl
      · rw [natV_len, List.take_length] at rC
        refine ⟨(by show 2 ≤ sizeLine; decide), fun t nt => ?_⟩
        have tW : t ≠ W1 := fun z => by rw [z, smC _ _ at_] at nt; cases nt
        have sF := smC.trans (same_new (o := .tup [.int q1.2.2.1, .ref D2]) nt)
        refine kn_ _ _ sF ⟨T' ++ [(t, D2, q1.2.2.1, q1.2.2.2.map fun x => os.idxOf x)], ?_, ?_, fun q hq => ?_, fun q hq => ?_⟩
        · unfold wrefs
          rw [r1, List.map_append]
          rfl
        · rw [List.map_append, r2, List.take_add_one, et, List.map_append]
          rfl
        · rcases List.mem_append.mp hq with m | m
          · exact ⟨sF _ _ (r3 q m).1, sF _ _ (r3 q m).2⟩
          · rw [List.mem_singleton.mp m]
            refine ⟨upd_same, ?_⟩
            have : HC D2 = some (.lst (natV (q1.2.2.2.map fun x => os.idxOf x))) := by rw [atC, rC]
            exact same_new nt _ _ this
        · rcases List.mem_append.mp hq with m | m
          · exact r4 q m
          · rw [List.mem_singleton.mp m]
            exact ⟨D2W, tW⟩
    obtain ⟨T', r1, r2, r3, r4⟩ := rW
    rw [wl, List.take_length] at r2
    have atA := smA _ _ at9'
    refine ⟨_, rfl, p, _, _, _, rfl, atA, T.l_Growth, T.n_Growth_ways, (by show 4 < 1000; decide), ?_⟩
    rw [fp_ways]
    have bF : But p H5 (upd HA p (.ins ea.c_Growth a.dx (flds { a with E := E1, S := S1, L := L1, W := W1 }))) := (b9.same smA).upd_ _
    have keep : ∀ {b : Addr} {o : HO}, HA b = some o → b ≠ p → (upd HA p (.ins ea.c_Growth a.dx (flds { a with E := E1, S := S1, L := L1, W := W1 }))) b = some o := fun h n => by rw [upd_ne n]; exact h
    have nep : ∀ {b : Addr} {xs : List V}, HA b = some (.lst xs) → b ≠ p := fun h z => by rw [z, atA] at h; cases h
    have on : (natV os).length = g.n := by rw [natV_len, olen]
    have E5' := L5 atE
    have E7' := L7 atE
    have E9' := L9 atE
    have f5 : Same H0 H5' := b5.frame G5.sm G.np
    have f7 : Same H0 H7' := b7.frame G5.sm G.np
    have f9 : Same H0 H9' := b9.frame G5.sm G.np
    refine q _ os at_ { a with E := E1, S := S1, L := L1, W := W1, ds := ds } T' B hat { sm := bF.frame G5.sm G.np, hp := upd_same, hE := ?_, hS := ?_, hL := ?_, hW := ?_, ln := by rw [rE2, on]; rfl, hd := fun i d e => ?_, np := G.np, nE := G3.sm.free nE1, nS := f5.free nS1, nL := f7.free nL1, nW := f9.free nW1, nD := fun d hd => ?_, ES := fun z => ?_, EL := fun z => ?_, EW := fun z => ?_, SL := fun z => ?_, SW := fun z => ?_, LW := fun z => ?_, dd := rE3 } (fun q m => ?_) r2
    · rw [← rE1]
      exact bF _ _ (ne5 atE) atE
    · have h := smA _ _ atS9
      rw [rS, on] at h
      exact keep h (nep h)
    · have h := smA _ _ atL9
      rw [rL, List.length_map, List.length_range, on] at h
      exact keep h (nep h)
    · rw [r1] at atW
      exact keep atW (nep atW)
    · obtain ⟨h1, kvs, h2, h3⟩ := rE4 i d e
      exact ⟨kvs, bF _ _ (fun z => by rw [z, G5.hp] at h2; cases h2) h2, h3⟩
    · obtain ⟨k, hk, ek⟩ := List.getElem_of_mem hd
      exact G3.sm.free (rE4 k d (by rw [List.getElem?_eq_getElem hk, ek])).1
    · have z : E1 = S1 := z
      rw [z, nS1] at E5'; cases E5'
    · have z : E1 = L1 := z
      rw [z, nL1] at E7'; cases E7'
    · have z : E1 = W1 := z
      rw [z, nW1] at E9'; cases E9'
    · have z : S1 = L1 := z
      rw [z, nL1] at atS7; cases atS7
    · have z : S1 = W1 := z
      rw [z, nW1] at atS9; cases atS9
    · have z : L1 = W1 := z
      rw [z, nW1] at atL9; cases atL9
    · obtain ⟨h1, h2⟩ := r3 q m
      exact ⟨keep h1 (fun z => by rw [z, atA] at h1; cases h1), keep h2 (nep h2)⟩
end

end SH
set_option Elab.async false
set_option linter.all false
set_option maxRecDepth 100000
set_option maxHeartbeats 4000000
namespace SH
open PySem PySem.Spec PyProof.Rows L2
theorem nd_sub {α : Type} [DecidableEq α] : ∀ (l m : List α), l.Nodup → (∀ x ∈ l, x ∈ m) → l.length ≤ m.length
  | [], _, _, _ => Nat.zero_le _
  | a :: l, m, nd, h => by
    have ha := h a (List.mem_cons_self ..)
    obtain ⟨n1, n2⟩ := List.nodup_cons.mp nd
    have := nd_sub l (m.erase a) n2 fun x hx => (List.mem_erase_of_ne (fun z => by rw [z] at hx; exact n1 hx)).mpr (h x (List.mem_cons_of_mem _ hx))
    have e := List.length_erase_of_mem ha
    have := List.length_pos_of_mem ha
    rw [List.length_cons]
    omega
theorem inner_let {D : List Sam.Wd} {al : List Nat} (h : ∀ t ∈ D, ∀ c ∈ t, c ∈ al) {u : Sam.Wd} (i : Sam.Inner D u) : ∀ c ∈ u, c ∈ al := fun c hc => by
  obtain ⟨t, mt, x, y, e⟩ := i
  exact h t mt c (by rw [e]; simp [hc])
theorem few_of {D : List Sam.Wd} {g : Sam.G} {rep : Nat → Sam.Wd} (I : Sam.Inv (Sam.LC D) g rep) {al : List Nat} (ha : al.length < 64) (h : ∀ t ∈ D, ∀ c ∈ t, c ∈ al) : Few g := fun i hi kvs rd => by
  obtain ⟨cs, ek, ncs, mcs, _⟩ := rd.keys
  have : kvs.length = cs.length := by
    have := congrArg List.length ek
    simpa using this
  have := nd_sub cs al ncs fun c hc => by
    obtain ⟨j, ej⟩ := (mcs c).mp hc
    exact inner_let h ((I.ed i hi c j).mp ej).2.inner c (by simp)
  omega
theorem WayOk.up {g g' : Sam.G} {rep rep' : Nat → Sam.Wd} {way : List Nat} {t : Sam.Wd} (h : WayOk g rep way t) (n : g.n ≤ g'.n) (k : ∀ x, x < g.n → rep' x = rep x) : WayOk g' rep' way t :=
  ⟨h.len, fun j hj => by obtain ⟨x, e1, e2, e3⟩ := h.at_ j hj; exact ⟨x, e1, by omega, by rw [k x e2]; exact e3⟩⟩
theorem WayOk.re {g : Sam.G} {rep : Nat → Sam.Wd} {os : List Nat} (nd : os.Nodup) (lt : ∀ x ∈ os, x < g.n) (full : ∀ x, x < g.n → x ∈ os) {way : List Nat} {t : Sam.Wd} (h : WayOk g rep way t) : WayOk (Sam.reG g os) (Sam.reR rep os) (way.map fun x => os.idxOf x) t := by
  refine ⟨by rw [List.length_map]; exact h.len, fun j hj => ?_⟩
  obtain ⟨x, e1, e2, e3⟩ := h.at_ j hj
  obtain ⟨n1, n2⟩ := Sam.re_n nd lt full e2
  refine ⟨os.idxOf x, by rw [List.getElem?_map, e1]; rfl, n1, ?_⟩
  show rep (os.getD (os.idxOf x) 0) = _
  rw [n2]
  exact e3
theorem WayOk.lt {g : Sam.G} {rep : Nat → Sam.Wd} {way : List Nat} {t : Sam.Wd} (h : WayOk g rep way t) : ∀ x ∈ way, x < g.n := fun x hx => by
  obtain ⟨j, hj, ej⟩ := List.getElem_of_mem hx
  obtain ⟨y, e1, e2, _⟩ := h.at_ j (by have := h.len; omega)
  rw [List.getElem?_eq_getElem hj, ej] at e1
  cases e1
  exact e2
/-- a house by numbers and signs -/
def hsOf (L : PL) : List (Int × Sam.Wd) := L.map fun q => (q.2.1, TL.tl q.2.2)
/-- each text's beginnings' classes -/
def WaysOk (g : Sam.G) (rep : Nat → Sam.Wd) (T : WT) (hs : List (Int × Sam.Wd)) : Prop := T.length = hs.length ∧ ∀ (i : Nat) (m : Int) (t : Sam.Wd), hs[i]? = some (m, t) → ∃ q, T[i]? = some q ∧ q.2.2.1 = m ∧ WayOk g rep q.2.2.2 t
theorem GrAt.setW {C : Addr} {H0 H : Hp} {p : Addr} {g : Sam.G} {a : Ad} {ws : List V} (G : GrAt C H0 H p g a ws) (ws' : List V) : GrAt C H0 (upd H a.W (.lst ws')) p g a ws' := by
  obtain ⟨q1, q2, q3, q4⟩ := G.pL
  have hdd : ∀ i d, a.ds[i]? = some d → ∃ kvs, (upd H a.W (.lst ws')) d = some (.dK kvs) ∧ DRep kvs (g.ed i) := fun i d e => by
    obtain ⟨kvs, h1, h2⟩ := G.hd i d e
    exact ⟨kvs, by rw [upd_ne (G.dne (List.mem_of_getElem? e)).2.2.2.2]; exact h1, h2⟩
  exact { G with sm := same_mut G.sm G.nW, hp := by rw [upd_ne q4]; exact G.hp, hE := by rw [upd_ne G.EW]; exact G.hE, hS := by rw [upd_ne G.SW]; exact G.hS, hL := by rw [upd_ne G.LW]; exact G.hL, hW := upd_same, hd := hdd }
/-- a house that a machine is built of -/
structure HouseOk (L : PL) : Prop where
  asc : (L.map (·.2.1)).Pairwise (· < ·)
  txt : ∀ q ∈ L, IsLet q.2.2 ∧ q.2.2.length ≤ 40
  few : L.length ≤ 8
  al : ∃ al : List Nat, al.length < 64 ∧ ∀ q ∈ L, ∀ c ∈ TL.tl q.2.2, c ∈ al
section
variable {P : Program} {w : World} {K : PySem.W.Frag} {mg : Str → Option Value} {base : Heap} {ea : Ea}
/-- the classes of a house, in order -/
structure Grown (C : Addr) (H0 H : Hp) (p : Addr) (L : PL) (g : Sam.G) (rep : Nat → Sam.Wd) (a : Ad) (T : WT) : Prop where
  fin : Sam.Fin (Sam.txs (hsOf L)) g rep
  at_ : GrAt C H0 H p g a (wrefs T)
  wa : WAt H T
  ok : WaysOk g rep T (hsOf L)
  n : g.n ≤ 700
  len : ∀ i, i < g.n → (rep i).length ≤ 40
def spInitG (K : PySem.W.Frag) (C : Addr) : Sp := fun vs H Q _ => ∃ (H0 : Hp) (p h dx : Addr) (L : PL), vs = [.ref p, .ref h] ∧ Same H0 H ∧ H0 p = none ∧ H p = some (.ins C dx []) ∧ HsAt K H0 h L ∧ HouseOk L ∧
  ∀ H' g rep a T, Grown C H0 H' p L g rep a T → Q .non H'
theorem sc_Growth___init__ : FnScope ["self", "house", "number", "text"] ["self", "house"] (defScope s_Growth___init__) := ⟨rfl, rfl, rfl, by decide +kernel, rfl, by decide +kernel, by decide +kernel⟩
theorem ok_Growth___init__ (T : Txt K mg ea) (c_Growth__way_of : C8.Met P w K mg base 4 ea.c_Growth "_way_of" (spWay ea.c_Growth) []) (c_Growth__put_in_order : C8.Met P w K mg base 2 ea.c_Growth "_put_in_order" (spPut ea.c_Growth) []) : C8.Mak P w K mg base 5 "Growth" ea.c_Growth (spInitG K ea.c_Growth) [] := by
  have nd := sc_Growth___init__.nd
  refine mak_of T.d_Growth___init__ T.g_Growth sc_Growth___init__ (fun vs H Q E h => ?_) (fun f cdv A outer s0 H vs Q E hr h => ?_)
  · obtain ⟨H0, p, hh, dx, L, rfl, _⟩ := h
    rfl
  · obtain ⟨H0, p, hh, dx, L, rfl, sm, np, hp, hA, ok, q⟩ := h
    refine ⟨_, (pss_cons (ps_fld (pv 0) (pe_lst (pa_cons pe_dnewK pa_nil)) rfl)
      (pss_cons (ps_fld (pv 0) (pe_lst (pa_cons pe_int pa_nil)) rfl)
      (pss_cons (ps_fld (pv 0) (pe_lst (pa_cons pe_non pa_nil)) rfl)
      (pss_cons (ps_fld (pv 0) (pe_lst pa_nil) rfl)
      (pss_cons (ps_for PassesOwn.never rfl (pi_listK (K := K) (pv 1)) (pg_tup rfl (pgs_cons (pg_name (i := 2) nd rfl (.inl rfl)) (pgs_cons (pg_name (i := 3) nd rfl (.inl rfl)) pgs_nil)))
        (pss_one (ps_expr (pe_bm PySem.F.plainAttrs_list PySem.F.slot_list_append PySem.F.type_list_append mt_append (pe_fldK (K := K) (pv 0) rfl) (pa_cons (pe_tup (pa_cons (pv 2) (pa_cons (C8.pe_mt c_Growth__way_of hr (by decide) (pv 0) (pa_cons (pv 3) pa_nil)) pa_nil))) pa_nil)))))
      (pss_one (ps_expr (C8.pe_mt0 c_Growth__put_in_order hr (by decide) (pv 0))))))))), ?_⟩
    -- the fields
    refine fun d nd0 => ⟨(by show 1 ≤ sizeLine; decide), fun E1 nE => ?_⟩
    have pd : p ≠ d := ne_of_none hp nd0
    have hp1 : (upd H d (.dK [])) p = some (.ins ea.c_Growth dx []) := by rw [upd_ne pd]; exact hp
    have pE : p ≠ E1 := ne_of_none hp1 nE
    have hp2 : (upd (upd H d (.dK [])) E1 (.lst [.ref d])) p = some (.ins ea.c_Growth dx []) := by rw [upd_ne pE]; exact hp1
    have dE : d ≠ E1 := ne_of_none (H := upd H d (.dK [])) upd_same nE
    refine ⟨_, rfl, p, ea.c_Growth, dx, [], rfl, hp2, T.l_Growth, T.n_Growth_edges, (by show 0 < 1000; decide), ?_⟩
    have nd0' : H0 d = none := sm.free nd0
    have nE' : H0 E1 = none := (sm.trans (same_new nd0)).free nE
    have b1 : Same H0 (upd (upd (upd H d (.dK [])) E1 (.lst [.ref d])) p (.ins ea.c_Growth dx [("edges", .ref E1)])) := same_mut (same_mut (same_mut sm nd0') nE') np
    have p1 : (upd (upd (upd H d (.dK [])) E1 (.lst [.ref d])) p (.ins ea.c_Growth dx [("edges", .ref E1)])) p = some (.ins ea.c_Growth dx [("edges", .ref E1)]) := upd_same
    have E11 : (upd (upd (upd H d (.dK [])) E1 (.lst [.ref d])) p (.ins ea.c_Growth dx [("edges", .ref E1)])) E1 = some (.lst [.ref d]) := by rw [upd_ne pE.symm, upd_same]
    have d1 : (upd (upd (upd H d (.dK [])) E1 (.lst [.ref d])) p (.ins ea.c_Growth dx [("edges", .ref E1)])) d = some (.dK []) := by rw [upd_ne pd.symm, upd_ne dE, upd_same]
    show tSeq _ _ _ _ (upd (upd (upd H d (.dK [])) E1 (.lst [.ref d])) p (.ins ea.c_Growth dx [("edges", .ref E1)]))
    generalize upd (upd (upd H d (.dK [])) E1 (.lst [.ref d])) p (.ins ea.c_Growth dx [("edges", .ref E1)]) = H1 at b1 p1 E11 d1 ⊢
    -- sizes
    refine ⟨(by show 1 ≤ sizeLine; decide), fun S1 nS => ⟨_, rfl, p, ea.c_Growth, dx, _, rfl, (by rw [upd_ne (ne_of_none p1 nS)]; exact p1), T.l_Growth, T.n_Growth_sizes, (by show 1 < 1000; decide), ?_⟩⟩
    have nS' := b1.free nS
    have b2 : Same H0 (upd (upd H1 S1 (.lst [.int 0])) p (.ins ea.c_Growth dx [("edges", .ref E1), ("sizes", .ref S1)])) := same_mut (same_mut b1 nS') np
    have pS : p ≠ S1 := ne_of_none p1 nS
    have ES : E1 ≠ S1 := ne_of_none E11 nS
    have p2 : (upd (upd H1 S1 (.lst [.int 0])) p (.ins ea.c_Growth dx [("edges", .ref E1), ("sizes", .ref S1)])) p = some (.ins ea.c_Growth dx [("edges", .ref E1), ("sizes", .ref S1)]) := upd_same
    have E12 : (upd (upd H1 S1 (.lst [.int 0])) p (.ins ea.c_Growth dx [("edges", .ref E1), ("sizes", .ref S1)])) E1 = some (.lst [.ref d]) := by rw [upd_ne pE.symm, upd_ne ES]; exact E11
    have d2 : (upd (upd H1 S1 (.lst [.int 0])) p (.ins ea.c_Growth dx [("edges", .ref E1), ("sizes", .ref S1)])) d = some (.dK []) := by rw [upd_ne pd.symm, upd_ne (ne_of_none d1 nS)]; exact d1
    have S12 : (upd (upd H1 S1 (.lst [.int 0])) p (.ins ea.c_Growth dx [("edges", .ref E1), ("sizes", .ref S1)])) S1 = some (.lst [.int 0]) := by rw [upd_ne pS.symm, upd_same]
    show tSeq _ _ _ _ (upd (upd H1 S1 (.lst [.int 0])) p (.ins ea.c_Growth dx [("edges", .ref E1), ("sizes", .ref S1)]))
    generalize upd (upd H1 S1 (.lst [.int 0])) p (.ins ea.c_Growth dx [("edges", .ref E1), ("sizes", .ref S1)]) = H2 at b2 p2 E12 d2 S12 ⊢
    -- links
    refine ⟨(by show 1 ≤ sizeLine; decide), fun L1 nL => ⟨_, rfl, p, ea.c_Growth, dx, _, rfl, (by rw [upd_ne (ne_of_none p2 nL)]; exact p2), T.l_Growth, T.n_Growth_links, (by show 2 < 1000; decide), ?_⟩⟩
    have nL' := b2.free nL
    have b3 : Same H0 (upd (upd H2 L1 (.lst [.non])) p (.ins ea.c_Growth dx [("edges", .ref E1), ("sizes", .ref S1), ("links", .ref L1)])) := same_mut (same_mut b2 nL') np
    have pL : p ≠ L1 := ne_of_none p2 nL
    have EL : E1 ≠ L1 := ne_of_none E12 nL
    have SL : S1 ≠ L1 := ne_of_none S12 nL
    have p3 : (upd (upd H2 L1 (.lst [.non])) p (.ins ea.c_Growth dx [("edges", .ref E1), ("sizes", .ref S1), ("links", .ref L1)])) p = some (.ins ea.c_Growth dx [("edges", .ref E1), ("sizes", .ref S1), ("links", .ref L1)]) := upd_same
    have E13 : (upd (upd H2 L1 (.lst [.non])) p (.ins ea.c_Growth dx [("edges", .ref E1), ("sizes", .ref S1), ("links", .ref L1)])) E1 = some (.lst [.ref d]) := by rw [upd_ne pE.symm, upd_ne EL]; exact E12
    have d3 : (upd (upd H2 L1 (.lst [.non])) p (.ins ea.c_Growth dx [("edges", .ref E1), ("sizes", .ref S1), ("links", .ref L1)])) d = some (.dK []) := by rw [upd_ne pd.symm, upd_ne (ne_of_none d2 nL)]; exact d2
    have S13 : (upd (upd H2 L1 (.lst [.non])) p (.ins ea.c_Growth dx [("edges", .ref E1), ("sizes", .ref S1), ("links", .ref L1)])) S1 = some (.lst [.int 0]) := by rw [upd_ne pS.symm, upd_ne SL]; exact S12
    have L13 : (upd (upd H2 L1 (.lst [.non])) p (.ins ea.c_Growth dx [("edges", .ref E1), ("sizes", .ref S1), ("links", .ref L1)])) L1 = some (.lst [.non]) := by rw [upd_ne pL.symm, upd_same]
    show tSeq _ _ _ _ (upd (upd H2 L1 (.lst [.non])) p (.ins ea.c_Growth dx [("edges", .ref E1), ("sizes", .ref S1), ("links", .ref L1)]))
    generalize upd (upd H2 L1 (.lst [.non])) p (.ins ea.c_Growth dx [("edges", .ref E1), ("sizes", .ref S1), ("links", .ref L1)]) = H3 at b3 p3 E13 d3 S13 L13 ⊢
    -- ways
    refine ⟨Nat.zero_le _, fun W1 nW => ⟨_, rfl, p, ea.c_Growth, dx, _, rfl, (by rw [upd_ne (ne_of_none p3 nW)]; exact p3), T.l_Growth, T.n_Growth_ways, (by show 3 < 1000; decide), ?_⟩⟩
    have nW' := b3.free nW
    have pW : p ≠ W1 := ne_of_none p3 nW
    have EW : E1 ≠ W1 := ne_of_none E13 nW
    have SW : S1 ≠ W1 := ne_of_none S13 nW
    have LW : L1 ≠ W1 := ne_of_none L13 nW
    have G0 : GrAt ea.c_Growth H0 (upd (upd H3 W1 (.lst [])) p (.ins ea.c_Growth dx [("edges", .ref E1), ("sizes", .ref S1), ("links", .ref L1), ("ways", .ref W1)])) p Sam.g0 ⟨dx, E1, S1, L1, W1, [d]⟩ [] :=
      { sm := same_mut (same_mut b3 nW') np, hp := upd_same, hE := by rw [upd_ne pE.symm, upd_ne EW]; exact E13, hS := by rw [upd_ne pS.symm, upd_ne SW]; exact S13, hL := by rw [upd_ne pL.symm, upd_ne LW]; exact L13, hW := by rw [upd_ne pW.symm, upd_same], ln := rfl, hd := (fun i d' e => by
          have h1 := (List.getElem?_eq_some_iff.mp e).1
          have i0 : i = 0 := by have : i < 1 := h1; omega
          subst i0
          have : d = d' := Option.some.inj e
          subst this
          exact ⟨[], by rw [upd_ne pd.symm, upd_ne (ne_of_none d3 nW)]; exact d3, DRep.nil⟩), np := np, nE := nE', nS := nS', nL := nL', nW := nW', nD := (fun d' m => by rw [List.mem_singleton.mp m]; exact nd0'), ES := ES, EL := EL, EW := EW, SL := SL, SW := SW, LW := LW, dd := by simp }
    show tSeq _ _ _ _ (upd (upd H3 W1 (.lst [])) p (.ins ea.c_Growth dx [("edges", .ref E1), ("sizes", .ref S1), ("links", .ref L1), ("ways", .ref W1)]))
    generalize upd (upd H3 W1 (.lst [])) p (.ins ea.c_Growth dx [("edges", .ref E1), ("sizes", .ref S1), ("links", .ref L1), ("ways", .ref W1)]) = H4 at G0 ⊢
    have txtl : ∀ q ∈ L, (TL.tl q.2.2).length ≤ 40 := fun q hq => by have := (ok.txt q hq).2; rw [TL.len_tl] at this; exact this
    have hsl : (hsOf L).length = L.length := List.length_map ..
    have hsi : ∀ {i : Nat} {t : Addr × Int × Str}, L[i]? = some t → (hsOf L)[i]? = some (t.2.1, TL.tl t.2.2) := fun e => by unfold hsOf; rw [List.getElem?_map, e]; rfl
    have D40 : ∀ i, ∀ x ∈ ([] :: ((hsOf L).take i).map (·.2) : List Sam.Wd), x.length ≤ 40 := fun i x hx => by
      rcases List.mem_cons.mp hx with e | m
      · rw [e]; exact Nat.zero_le _
      · obtain ⟨y, hy, rfl⟩ := List.mem_map.mp m
        obtain ⟨t, ht, rfl⟩ := List.mem_map.mp (List.mem_of_mem_take hy)
        exact txtl t ht
    have rl : (refs L).length = L.length := List.length_map ..
    refine ⟨_, rfl, hh, rfl, ⟨_, G0.sm.seq hA.1⟩, ?_⟩
    refine for_list (K := K) (a := hh) (xs := refs L) (fun i σ H' => ∃ (Hf : Hp) (T1 : WT) (g : Sam.G) (rep : Nat → Sam.Wd) (a : Ad) (y2 y3 : Option V), σ = [some (.ref p), some (.ref hh), y2, y3] ∧ Same H0 Hf ∧ GrAt ea.c_Growth Hf H' p g a (wrefs T1) ∧ WAt Hf T1 ∧
      Sam.Inv (Sam.LC ([] :: ((hsOf L).take i).map (·.2))) g rep ∧ g.n ≤ 1 + 80 * i ∧ T1.length = i ∧ ∀ k m t, k < i → (hsOf L)[k]? = some (m, t) → ∃ q, T1[k]? = some q ∧ q.2.2.1 = m ∧ WayOk g rep q.2.2.2 t)
      ⟨H0, [], Sam.g0, _, _, none, none, rfl, Same.refl _, G0, (fun q m => nomatch m), Sam.inv_start, Nat.le_refl _, rfl, fun k m t h => absurd h (Nat.not_lt_zero _)⟩ (fun i σ H' _ hW => ?_) (fun i x σ H' hx hW => ?_) (fun σ H' hW => ?_)
    · obtain ⟨Hf, T1, g, rep, a, y2, y3, rfl, s1, G, _⟩ := hW
      exact (s1.trans G.sm).seq hA.1
    · obtain ⟨Hf, T1, g, rep, a, y2, y3, rfl, s1, G, wa, I, n1, tl1, tok⟩ := hW
      obtain ⟨t, ht, tm, rfl⟩ := refs_get hx
      have iL : i < L.length := (List.getElem?_eq_some_iff.mp ht).1
      have fw := ok.few
      obtain ⟨tz, tz2⟩ := ok.txt t tm
      refine ⟨_, _, rfl, same_tup (s1.trans G.sm) (hA.2 t tm), rfl, _, _, rfl, _, _, rfl, rfl, ?_⟩
      refine ⟨_, rfl, p, _, _, _, _, rfl, G.hp, T.l_Growth, T.n_Growth_ways, fl_ways a, .inl ⟨rfl, _, SqL.of G.hW⟩, _, rfl, _, rfl, p, _, _, rfl, G.hp, rfl, _, rfl, Hf, p, g, a, _, t.2.2, _, rep, rfl, G, I, (fun z => by cases z), D40 i, tz, tz2, by omega, fun H5 ds g' rep' l way nl I' n2 n3 keep wo G5 => ?_⟩
      refine ⟨(by show 2 ≤ sizeLine; decide), fun tt ntt => ?_⟩
      have G6 := G5.add ntt (.tup [.int t.2.1, .ref l])
      have wl : (wrefs T1).length = i := by rw [← tl1]; exact List.length_map ..
      refine ⟨a.W, _, _, rfl, rfl, G6.hW, sz1000 (by omega), ?_⟩
      have G7 := G6.setW (wrefs T1 ++ [.ref tt])
      have ew : wrefs T1 ++ [V.ref tt] = wrefs (T1 ++ [(tt, l, t.2.1, way)]) := by unfold wrefs; rw [List.map_append]; rfl
      rw [ew] at G7 ⊢
      have nlf : Hf l = none := G.sm.free nl
      have sf1 : Same Hf (upd Hf l (.lst (natV way))) := same_new nlf
      have ntf := G5.sm.free ntt
      have sf2 := sf1.trans (same_new (o := .tup [.int t.2.1, .ref l]) ntf)
      have lt : l ≠ tt := ne_of_none (H := upd Hf l (.lst (natV way))) upd_same ntf
      have eD : ([] :: ((hsOf L).take i).map (·.2) : List Sam.Wd) ++ [TL.tl t.2.2] = [] :: ((hsOf L).take (i + 1)).map (·.2) := by
        rw [List.take_add_one, hsi ht, List.map_append]
        rfl
      rw [eD] at I'
      refine ⟨_, T1 ++ [(tt, l, t.2.1, way)], g', rep', _, _, _, rfl, s1.trans sf2, G7, fun q m => ?_, I', by omega, by rw [List.length_append, tl1]; rfl, fun k m tx hk e => ?_⟩
      · rcases List.mem_append.mp m with m | m
        · exact ⟨sf2 _ _ (wa q m).1, sf2 _ _ (wa q m).2⟩
        · rw [List.mem_singleton.mp m]
          exact ⟨upd_same, by rw [upd_ne lt]; exact upd_same⟩
      · by_cases hki : k < i
        · obtain ⟨q, e1, e2, e3⟩ := tok k m tx hki e
          exact ⟨q, by rw [List.getElem?_append_left (by omega)]; exact e1, e2, e3.up n3 keep⟩
        · have : k = i := by omega
          subst this
          rw [hsi ht] at e
          cases e
          refine ⟨(tt, l, t.2.1, way), ?_, rfl, wo⟩
          rw [List.getElem?_append_right (by omega), tl1, Nat.sub_self]
          rfl
    · obtain ⟨Hf, T1, g, rep, a, y2, y3, rfl, s1, G, wa, I, n1, tl1, tok⟩ := hW
      have fw := ok.few
      rw [rl] at I n1 tl1 tok
      have eD : ([] :: ((hsOf L).take L.length).map (·.2) : List Sam.Wd) = Sam.txs (hsOf L) := by
        rw [List.take_of_length_le (by omega)]
        rfl
      rw [eD] at I
      obtain ⟨al, al1, al2⟩ := ok.al
      have few := few_of I al1 fun t ht c hc => by
        rcases List.mem_cons.mp ht with e | m
        · rw [e] at hc; cases hc
        · obtain ⟨y, hy, rfl⟩ := List.mem_map.mp m
          obtain ⟨t', ht', rfl⟩ := List.mem_map.mp hy
          exact al2 t' ht' c hc
      have lenr : ∀ i, i < g.n → (rep i).length ≤ 40 := fun i hi => inner_len (by rw [← eD]; exact D40 _) (I.mem hi).inner
      have tq : ∀ q ∈ T1, ∃ k m t, k < L.length ∧ (hsOf L)[k]? = some (m, t) ∧ q.2.2.1 = m ∧ WayOk g rep q.2.2.2 t ∧ t.length ≤ 40 := fun q hq => by
        obtain ⟨k, hk, ek⟩ := List.getElem_of_mem hq
        have hk2 : k < L.length := by omega
        have eL : L[k]? = some L[k] := List.getElem?_eq_getElem hk2
        have e := hsi eL
        obtain ⟨q', e1, e2, e3⟩ := tok k _ _ hk2 e
        rw [List.getElem?_eq_getElem hk, ek] at e1
        cases e1
        exact ⟨k, _, _, hk2, e, e2, e3, txtl _ (List.getElem_mem hk2)⟩
      refine ⟨_, rfl, p, _, _, rfl, G.hp, rfl, Hf, p, g, a, T1, _, rep, rfl, G, fun q m => ⟨G.sm _ _ (wa q m).1, G.sm _ _ (wa q m).2⟩, fun q hq => ?_, by omega, I, few, by omega, fun H5 os at_ a' T' B hat G5 wa5 eT => ?_⟩
      · obtain ⟨k, m, t, _, _, _, e3, e4⟩ := tq q hq
        exact ⟨by rw [e3.len]; omega, e3.lt⟩
      · have full : ∀ x, x < g.n → x ∈ os := fun x hx => Sam.Bf.full I B hat _ (Nat.le_refl _) hx
        have lT : T'.length = T1.length := by
          have := congrArg List.length eT
          rw [List.length_map, List.length_map] at this
          exact this
        refine q H5 _ (Sam.reR rep os) a' T' ⟨Sam.fin_of I B hat, G5.frame (s1.trans G5.sm) (fun b nb => .inl (fun z => ?_)), wa5, ⟨by omega, fun k m t e => ?_⟩, by show g.n ≤ 700; omega, fun i hi => lenr _ (Sam.re_o B.nd B.lt full hi).1⟩
        · cases e : H0 b with
          | none => exact nb e
          | some o => rw [s1 _ _ e] at z; cases z
        · have hk : k < L.length := by
            have := (List.getElem?_eq_some_iff.mp e).1
            omega
          obtain ⟨q', e1, e2, e3⟩ := tok k m t hk e
          have e4 : (T'.map (·.2.2))[k]? = some (q'.2.2.1, q'.2.2.2.map fun x => os.idxOf x) := by rw [eT, List.getElem?_map, e1]; rfl
          rw [List.getElem?_map] at e4
          have hk' : k < T'.length := by omega
          have e5 : T'[k]? = some T'[k] := List.getElem?_eq_getElem hk'
          rw [e5] at e4
          have e6 := Option.some.inj e4
          refine ⟨T'[k], e5, ?_, ?_⟩
          · have := congrArg Prod.fst e6
            exact this.trans e2
          · have := congrArg Prod.snd e6
            show WayOk _ _ (T'[k]).2.2.2 t
            have this : (T'[k]).2.2.2 = q'.2.2.2.map fun x => os.idxOf x := this
            rw [this]
            exact e3.re B.nd B.lt full
end

end SH
set_option Elab.async false
set_option linter.all false
set_option maxRecDepth 100000
set_option maxHeartbeats 4000000
namespace SH
open PySem PySem.Spec PyProof.Rows L2
/-- a dict of letters and marks -/
structure MRep (kvs : List (Key × V)) (f : Nat → Option Nat) (M : Int → Prop) (last : Nat) : Prop where
  nd : (kvs.map (·.1)).Nodup
  ks : ∀ x ∈ kvs, (∃ c, c < 127 ∧ x.1 = lkey c) ∨ ∃ m : Int, x.1 = .inl m
  vs : ∀ c, valV kvs (lkey c) = (f c).map fun j => V.int (j : Int)
  ms : ∀ m : Int, (M m → valV kvs (.inl m) = some (.int (last : Int))) ∧ (¬ M m → valV kvs (.inl m) = none)
theorem MRep.of {kvs : List (Key × V)} {f : Nat → Option Nat} (h : DRep kvs f) (last : Nat) : MRep kvs f (fun _ => False) last := by
  refine ⟨h.nd, fun x hx => .inl (h.ks x hx), h.vs, fun m => ⟨fun z => z.elim, fun _ => ?_⟩⟩
  cases e : valV kvs (.inl m) with
  | none => rfl
  | some v =>
    have := valV_in e
    obtain ⟨x, hx, ex⟩ := List.mem_map.mp this
    obtain ⟨c, _, ec⟩ := h.ks x hx
    rw [ec] at ex
    cases ex
theorem MRep.put {kvs : List (Key × V)} {f : Nat → Option Nat} {M : Int → Prop} {last : Nat} (h : MRep kvs f M last) (m : Int) : MRep (putK kvs (.inl m) (.int (last : Int))) f (fun x => M x ∨ x = m) last := by
  refine ⟨nd_put h.nd _ _, ks_put (p := fun k => (∃ c, c < 127 ∧ k = lkey c) ∨ ∃ m : Int, k = .inl m) h.ks (.inr ⟨m, rfl⟩) _, fun c => ?_, fun x => ?_⟩
  · rw [valV_put, if_neg (fun z => by cases z)]
    exact h.vs c
  · rw [valV_put]
    by_cases e : x = m
    · rw [if_pos (by rw [e])]
      exact ⟨fun _ => rfl, fun z => absurd (.inr e) z⟩
    · rw [if_neg (fun z => e (Sum.inl.inj z))]
      exact ⟨fun z => (h.ms x).1 (z.resolve_right e), fun z => (h.ms x).2 fun y => z (.inl y)⟩
theorem MRep.congr {kvs : List (Key × V)} {f : Nat → Option Nat} {M M' : Int → Prop} {last : Nat} (h : MRep kvs f M last) (e : ∀ m, M m ↔ M' m) : MRep kvs f M' last :=
  ⟨h.nd, h.ks, h.vs, fun m => ⟨fun z => (h.ms m).1 ((e m).mpr z), fun z => (h.ms m).2 fun y => z ((e m).mp y)⟩⟩
theorem MRep.len {kvs : List (Key × V)} {f : Nat → Option Nat} {M : Int → Prop} {last : Nat} (h : MRep kvs f M last) (ns : List Int) (hM : ∀ m, M m → m ∈ ns) : kvs.length ≤ 127 + ns.length := by
  have := nd_sub (kvs.map (·.1)) ((List.range 127).map lkey ++ ns.map Sum.inl) h.nd fun k hk => by
    obtain ⟨x, hx, rfl⟩ := List.mem_map.mp hk
    rcases h.ks x hx with ⟨c, hc, e⟩ | ⟨m, e⟩
    · exact List.mem_append_left _ (List.mem_map.mpr ⟨c, List.mem_range.mpr hc, e.symm⟩)
    · refine List.mem_append_right _ (List.mem_map.mpr ⟨m, hM m (Classical.byContradiction fun n => ?_), e.symm⟩)
      have := valV_not ((h.ms m).2 n)
      exact this (e ▸ hk)
  rw [List.length_map, List.length_append, List.length_map, List.length_map, List.length_range] at this
  exact this
/-- the marks of a class among the first texts -/
def Mk (hs : List (Int × Sam.Wd)) (rep : Nat → Sam.Wd) (i s : Nat) (m : Int) : Prop := ∃ (k : Nat) (t : Sam.Wd), k < i ∧ hs[k]? = some (m, t) ∧ rep s <:+ t
theorem atI_end {α : Type} {xs : List α} {x : α} (n : xs ≠ []) (h : xs.getLast n = x) : atI xs (-1) = some x := by
  have e := List.dropLast_concat_getLast n
  rw [← e, h]
  exact atI_last _ _
section
variable {P : Program} {w : World} {K : PySem.W.Frag} {mg : Str → Option Value} {base : Heap} {ea : Ea}
/-- the machine of a house -/
structure MachAt (H H' : Hp) (l : Addr) (L : PL) (g : Sam.G) (rep : Nat → Sam.Wd) (ds : List Addr) (dl : Addr) : Prop where
  sm : Same H H'
  fin : Sam.Fin (Sam.txs (hsOf L)) g rep
  at_ : H' l = some (.lst (ds.map V.ref ++ [.ref dl]))
  ln : ds.length = g.n
  hd : ∀ i d, ds[i]? = some d → ∃ kvs, H' d = some (.dK kvs) ∧ MRep kvs (g.ed i) (Mk (hsOf L) rep (hsOf L).length i) g.n
  hl : H' dl = some (.dK [])
  nl : H l = none
  nd : ∀ d ∈ ds, H d = none
  ndl : H dl = none
  dd : (ds ++ [dl]).Nodup
  n : g.n ≤ 20001
/-- the edges of a grown house, with the marks -/
def spMarked (C : Addr) : Sp := fun vs H Q _ => ∃ (H0 : Hp) (x : Addr) (L : PL) (g : Sam.G) (rep : Nat → Sam.Wd) (a : Ad) (T : WT), vs = [.ref x] ∧ Grown C H0 H x L g rep a T ∧ HouseOk L ∧
  ∀ H' l ds dl, MachAt H H' l L g rep ds dl → Q (.ref l) H'
theorem MachAt.back {H0 H H' : Hp} {l : Addr} {L : PL} {g : Sam.G} {rep : Nat → Sam.Wd} {ds : List Addr} {dl : Addr} (s : Same H0 H) (M : MachAt H H' l L g rep ds dl) : MachAt H0 H' l L g rep ds dl :=
  { M with sm := s.trans M.sm, nl := s.free M.nl, nd := fun d m => s.free (M.nd d m), ndl := s.free M.ndl }
theorem sc_Growth_marked_edges : FnScope ["self", "last", "found", "number", "way", "state", "row"] ["self"] (defScope s_Growth_marked_edges) := ⟨rfl, rfl, rfl, by decide +kernel, rfl, by decide +kernel, by decide +kernel⟩
theorem ok_Growth_marked_edges (T : Txt K mg ea) (c_Growth_linked : C8.Met P w K mg base 1 ea.c_Growth "linked" (spLinked ea.c_Growth) []) : C8.Met P w K mg base 2 ea.c_Growth "marked_edges" (spMarked ea.c_Growth) [] := by
  have nd := sc_Growth_marked_edges.nd
  refine met_of T.d_Growth_marked_edges T.l_Growth sc_Growth_marked_edges (fun vs H Q E h => ?_) (fun f cdv A outer s0 H vs Q E hr h => ?_)
  · obtain ⟨H0, x, L, g, rep, a, T1, rfl, _⟩ := h
    rfl
  · obtain ⟨H0, x, L, g, rep, a, T1, rfl, Gr, ok, q⟩ := h
    refine ⟨_, (pss_cons (ps_set (i := 1) nd rfl (.inl rfl) (pe_callB call_len_seq (by rfl) T.b_len PySem.boot_len (pa_cons (pe_fldK (K := K) (pv 0) rfl) pa_nil)))
      (pss_cons (ps_setLc (i := 2) (own := [("row", 6)]) (g := (gName 6)) rfl nd rfl rfl (sw_true rfl rfl rfl (by decide +kernel)) (pi_listK (K := K) (pe_fldK (K := K) (pv 0) rfl)) (blkOk_by (own := [("row", 6)]) (N := ["self", "last", "found", "number", "way", "state", "row"]) (sc := defScope s_Growth_marked_edges) (by decide +kernel)) (fun _ _ _ _ _ => (pg_name (i := 6) nd rfl (.inl rfl))) (fun _ _ _ _ _ => pts_nil) (fun _ _ _ _ _ => (pe_callTy call_dictD (by rfl) T.b_dict (by decide +kernel) (pa_cons (pv 6) pa_nil))))
      (pss_cons (ps_expr (pe_bm PySem.F.plainAttrs_list PySem.F.slot_list_append PySem.F.type_list_append mt_append (pv 2) (pa_cons pe_dnewK pa_nil)))
      (pss_cons (ps_for PassesOwn.never rfl (pi_listK (K := K) (pe_fldK (K := K) (pv 0) rfl)) (pg_tup rfl (pgs_cons (pg_name (i := 3) nd rfl (.inl rfl)) (pgs_cons (pg_name (i := 4) nd rfl (.inl rfl)) pgs_nil)))
        (pss_one (ps_for PassesOwn.never rfl (pi_listK (K := K) (C8.pe_mt c_Growth_linked hr (by decide) (pv 0) (pa_cons (pe_ix (ixl (K := K)) (pv 4) (pe_un un_neg pe_int) (fun _ _ => rfl)) pa_nil))) (pg_name (i := 5) nd rfl (.inl rfl))
            (pss_one (ps_dput (hu_of hr) (pe_ix (ixl (K := K)) (pv 2) (pv 5) (fun _ _ => rfl)) (pv 3) (pv 1) rfl)))))
      (pss_one (ps_ret (pv 2))))))), ?_⟩
    have G := Gr.at_
    have F := Gr.fin
    have I := F.inv
    have O := okg_of I fun i hi => Nat.le_trans (Gr.len i hi) (by decide)
    have gn := Gr.n
    have lnr : (a.ds.map V.ref).length = g.n := by rw [List.length_map]; exact G.ln
    refine ⟨_, rfl, x, _, _, _, _, rfl, G.hp, T.l_Growth, T.n_Growth_edges, fl_edges a, a.E, _, rfl, .inl (SqL.of G.hE), ?_⟩
    show gName 1 (V.int ((a.ds.map V.ref).length : Int)) _ H _
    rw [lnr]
    -- copies of the dicts
    refine ⟨_, rfl, x, _, _, _, _, rfl, G.hp, T.l_Growth, T.n_Growth_edges, fl_edges a, a.E, rfl, ⟨_, SqL.of G.hE⟩, fun D hD => ?_⟩
    refine lc_w (walk_list (xs := a.ds.map V.ref)) hD (by omega) (fun H' e => e.seq (SqL.of G.hE))
      (fun i acc H' => ∃ es : List Addr, acc = es.map V.ref ∧ es.length = i ∧ es.Nodup ∧ (∀ e ∈ es, H e = none) ∧ ∀ s e, es[s]? = some e → ∃ kvs, H' e = some (.dK kvs) ∧ DRep kvs (g.ed s))
      (fun _ _ => ⟨[], rfl, rfl, List.nodup_nil, (fun _ m => nomatch m), fun s e h => by cases h⟩) (fun i acc H1 H2 l hl b r => ?_) (fun i H x H' y => by rw [y.1]; exact Same.refl _) (fun i y acc H1 H2 Qn Qf hi sm yy r at_ kn kf => ?_) (fun acc H1 sm at_ _ r => ?_)
    · obtain ⟨es, e1, e2, e3, e4, e5⟩ := r
      refine ⟨es, e1, e2, e3, e4, fun s e h => ?_⟩
      obtain ⟨kvs, h1, h2⟩ := e5 s e h
      exact ⟨kvs, b _ _ (fun z => by rw [z, hl] at h1; cases h1) h1, h2⟩
    · obtain ⟨rfl, hx⟩ := yy
      obtain ⟨es, e1, e2, e3, e4, e5⟩ := r
      have ig : i < g.n := by omega
      obtain ⟨d, kvs, dm, ed, _, h1, h2⟩ := G.ed_at ig
      rw [List.getElem?_map, ed] at hx
      have hx := Option.some.inj hx
      subst hx
      refine ⟨rfl, _, rfl, d, kvs, rfl, .inl (sm _ _ h1), fun p np => kn _ _ (same_new np) ⟨es ++ [p], by rw [e1, List.map_append]; rfl, by rw [List.length_append, e2]; rfl, ?_, fun e m => ?_, fun s e h => ?_⟩⟩
      · rw [List.nodup_append]
        refine ⟨e3, by simp, fun u hu v hv z => ?_⟩
        rw [List.mem_singleton.mp hv] at z
        obtain ⟨s, hs, es'⟩ := List.getElem_of_mem hu
        obtain ⟨k2, h3, _⟩ := e5 s u (by rw [List.getElem?_eq_getElem hs, es'])
        rw [z, np] at h3
        cases h3
      · rcases List.mem_append.mp m with m | m
        · exact e4 e m
        · rw [List.mem_singleton.mp m]; exact sm.free np
      · by_cases hs : s < i
        · rw [List.getElem?_append_left (by omega)] at h
          obtain ⟨k2, h3, h4⟩ := e5 s e h
          exact ⟨k2, same_new np _ _ h3, h4⟩
        · have hs2 : s < (es ++ [p]).length := (List.getElem?_eq_some_iff.mp h).1
          rw [List.length_append, e2] at hs2
          have hs3 : s < i + 1 := hs2
          have : s = i := by omega
          subst this
          rw [List.getElem?_append_right (by omega), e2, Nat.sub_self] at h
          cases h
          exact ⟨kvs, upd_same, h2⟩
    obtain ⟨es, rfl, e2, e3, e4, e5⟩ := r
    rw [lnr] at e2
    -- the last one
    refine ⟨_, rfl, .inl ⟨rfl, _, SqL.of at_⟩, fun dl ndl => ?_⟩
    have dlD : dl ≠ D := fun z => by rw [z, at_] at ndl; cases ndl
    refine ⟨D, es.map V.ref, .ref dl, rfl, rfl, by rw [upd_ne dlD.symm]; exact at_, sz1000 (by rw [List.length_map]; omega), ?_⟩
    have s2 : Same H (upd (upd H1 dl (.dK [])) D (.lst (es.map V.ref ++ [.ref dl]))) := same_mut (sm.trans (same_new ndl)) hD
    have hl2 : (upd (upd H1 dl (.dK [])) D (.lst (es.map V.ref ++ [.ref dl]))) D = some (.lst (es.map V.ref ++ [.ref dl])) := upd_same
    have hdl : (upd (upd H1 dl (.dK [])) D (.lst (es.map V.ref ++ [.ref dl]))) dl = some (.dK []) := by rw [upd_ne dlD, upd_same]
    have hes : ∀ s e, es[s]? = some e → ∃ kvs, (upd (upd H1 dl (.dK [])) D (.lst (es.map V.ref ++ [.ref dl]))) e = some (.dK kvs) ∧ DRep kvs (g.ed s) := fun s e h => by
      obtain ⟨kvs, h1, h2⟩ := e5 s e h
      have : e ≠ D := fun z => by rw [z, at_] at h1; cases h1
      exact ⟨kvs, by rw [upd_ne this]; exact same_new ndl _ _ h1, h2⟩
    have dles : dl ∉ es := fun m => by
      obtain ⟨i, hi, e⟩ := List.getElem_of_mem m
      obtain ⟨kvs, h1, _⟩ := e5 i dl (by rw [List.getElem?_eq_getElem hi, e])
      rw [ndl] at h1
      cases h1
    have ndl0 : H dl = none := sm.free ndl
    generalize upd (upd H1 dl (.dK [])) D (.lst (es.map V.ref ++ [.ref dl])) = H2 at s2 hl2 hdl hes ⊢
    have hsl : (hsOf L).length = L.length := List.length_map ..
    obtain ⟨okl, okt⟩ := Gr.ok
    have wrl : (wrefs T1).length = (hsOf L).length := by rw [← okl]; exact List.length_map ..
    refine ⟨_, rfl, x, _, _, _, _, rfl, s2 _ _ G.hp, T.l_Growth, T.n_Growth_ways, fl_ways a, a.W, rfl, ⟨_, SqL.of (s2 _ _ G.hW)⟩, ?_⟩
    refine for_list (K := K) (a := a.W) (xs := wrefs T1) (fun i σ H' => ∃ (y3 y4 y5 y6 : Option V), σ = [some (.ref x), some (.int (g.n : Int)), some (.ref D), y3, y4, y5, y6] ∧ Same H H' ∧ H' D = some (.lst (es.map V.ref ++ [.ref dl])) ∧ H' dl = some (.dK []) ∧ ∀ s d, es[s]? = some d → ∃ kvs, H' d = some (.dK kvs) ∧ MRep kvs (g.ed s) (Mk (hsOf L) rep i s) g.n)
      ⟨none, none, none, none, rfl, s2, hl2, hdl, fun s d e => ?_⟩ (fun i σ H' _ hW => ?_) (fun i y σ H' hx hW => ?_) (fun σ H' hW => ?_)
    · obtain ⟨kvs, h1, h2⟩ := hes s d e
      exact ⟨kvs, h1, (MRep.of h2 g.n).congr fun m => ⟨fun z => z.elim, fun ⟨k, t, hk, _⟩ => absurd hk (Nat.not_lt_zero _)⟩⟩
    · obtain ⟨y3, y4, y5, y6, rfl, sb, _⟩ := hW
      exact SqL.of (sb _ _ G.hW)
    · obtain ⟨y3, y4, y5, y6, rfl, sb, hD2, hdl2, hds⟩ := hW
      have hi : i < (hsOf L).length := by
        have := (List.getElem?_eq_some_iff.mp hx).1
        omega
      have eh : (hsOf L)[i]? = some ((hsOf L)[i].1, (hsOf L)[i].2) := List.getElem?_eq_getElem hi
      generalize (hsOf L)[i].1 = m at eh
      generalize (hsOf L)[i].2 = t at eh
      obtain ⟨q', eq, em, wo⟩ := okt i m t eh
      unfold wrefs at hx
      rw [List.getElem?_map, eq] at hx
      have hx := Option.some.inj hx
      subst hx em
      obtain ⟨w1, w2⟩ := Gr.wa q' (List.mem_of_getElem? eq)
      obtain ⟨st, e6, e7, e8⟩ := wo.at_ t.length (Nat.le_refl _)
      rw [List.take_length] at e8
      have ne : q'.2.2.2 ≠ [] := fun z => by have := wo.len; rw [z] at this; cases this
      have lastw : atI (natV q'.2.2.2) (-1) = some (.int (st : Int)) := by
        have ne2 : natV q'.2.2.2 ≠ [] := fun z => ne (List.map_eq_nil_iff.mp z)
        refine atI_end ne2 ?_
        rw [List.getLast_eq_getElem]
        have hl2 : (natV q'.2.2.2).length = t.length + 1 := by rw [natV_len]; exact wo.len
        have : (natV q'.2.2.2)[t.length]? = some (.int (st : Int)) := by unfold natV; rw [List.getElem?_map, e6]; rfl
        obtain ⟨h5, h6⟩ := List.getElem?_eq_some_iff.mp this
        rw [← h6]
        congr 1
        omega
      refine ⟨_, _, rfl, .inl (.inl (sb _ _ w1)), rfl, _, _, rfl, _, _, rfl, rfl, ?_⟩
      -- the classes of its ends
      refine ⟨_, rfl, x, _, _, rfl, sb _ _ G.hp, rfl, _, rfl, 1, rfl, q'.2.1, _, _, _, rfl, rfl, SqL.of (sb _ _ w2), lastw, x, g, a, st, rfl, sb _ _ G.hp, sb _ _ G.hL, O, e7, fun H3 lc s3 nlc atc => ?_⟩
      refine ⟨lc, rfl, ⟨_, SqL.of atc⟩, ?_⟩
      refine for_list (K := K) (a := lc) (xs := natV (Sam.chain g st)) (fun j σ H' => ∃ (y5 : Option V), σ = [some (.ref x), some (.int (g.n : Int)), some (.ref D), some (.int q'.2.2.1), some (.ref q'.2.1), y5, y6] ∧ Same H H' ∧ H' D = some (.lst (es.map V.ref ++ [.ref dl])) ∧ H' dl = some (.dK []) ∧ H' lc = some (.lst (natV (Sam.chain g st))) ∧ ∀ s d, es[s]? = some d → ∃ kvs, H' d = some (.dK kvs) ∧ MRep kvs (g.ed s) (fun m' => Mk (hsOf L) rep i s m' ∨ (m' = q'.2.2.1 ∧ s ∈ (Sam.chain g st).take j)) g.n)
        ⟨y5, rfl, sb.trans s3, s3 _ _ hD2, s3 _ _ hdl2, atc, fun s d e => ?_⟩ (fun j σ H' _ hW => ?_) (fun j y σ H' hx hW => ?_) (fun σ H' hW => ?_)
      · obtain ⟨kvs, h1, h2⟩ := hds s d e
        exact ⟨kvs, s3 _ _ h1, h2.congr fun m' => ⟨.inl, fun z => z.elim id fun z => by rw [List.take_zero] at z; cases z.2⟩⟩
      · obtain ⟨y5, rfl, _, _, _, h8, _⟩ := hW
        exact SqL.of h8
      · obtain ⟨y5, rfl, sb4, hD4, hdl4, atc4, hd4⟩ := hW
        have hj : j < (Sam.chain g st).length := by
          have := (List.getElem?_eq_some_iff.mp hx).1
          rwa [natV_len] at this
        have es' : (Sam.chain g st)[j]? = some (Sam.chain g st)[j] := List.getElem?_eq_getElem hj
        have sm' := (O.chain_lt _ (Nat.le_refl _) e7 _ (List.getElem_mem hj)).1
        generalize (Sam.chain g st)[j] = s at es' sm'
        unfold natV at hx
        rw [List.getElem?_map, es'] at hx
        have hx := Option.some.inj hx
        subst hx
        have hs2 : s < es.length := by omega
        have ed : es[s]? = some es[s] := List.getElem?_eq_getElem hs2
        have dm : es[s] ∈ es := List.getElem_mem hs2
        generalize es[s] = d at ed dm
        obtain ⟨kvs, h1, h2⟩ := hd4 s d ed
        have dI : atI (es.map V.ref ++ [V.ref dl]) (s : Int) = some (.ref d) := atI_nat (by rw [List.getElem?_append_left (by rw [List.length_map]; exact hs2), List.getElem?_map, ed]; rfl)
        have k300 : kvs.length < sizeLine := by
          have h9 := h2.len ((hsOf L).map (·.1)) fun m' hm' => by
            rcases hm' with ⟨k, t', _, e5, _⟩ | ⟨e5, _⟩
            · exact List.mem_map.mpr ⟨_, List.mem_of_getElem? e5, rfl⟩
            · rw [e5]; exact List.mem_map.mpr ⟨_, List.mem_of_getElem? eh, rfl⟩
          rw [List.length_map, hsl] at h9
          have := ok.few
          exact sz1000 (by omega)
        refine ⟨_, rfl, _, rfl, _, rfl, D, _, _, _, rfl, rfl, SqL.of hD4, dI, _, rfl, d, _, rfl, DPut.k (k := .inl q'.2.2.1) h1 k300, ?_⟩
        have dlc : d ≠ lc := fun z => by rw [z, atc4] at h1; cases h1
        have dD : d ≠ D := fun z => by rw [z, hD4] at h1; cases h1
        have ddl : d ≠ dl := fun z => dles (z ▸ dm)
        refine ⟨_, rfl, same_mut sb4 (e4 d dm), by rw [upd_ne dD.symm]; exact hD4, by rw [upd_ne ddl.symm]; exact hdl4, by rw [upd_ne dlc.symm]; exact atc4, fun s' d' e' => ?_⟩
        have tk : (Sam.chain g st).take (j + 1) = (Sam.chain g st).take j ++ [s] := by rw [List.take_add_one, es']; rfl
        by_cases z : s' = s
        · subst z
          rw [ed] at e'
          cases e'
          refine ⟨_, upd_same, (h2.put q'.2.2.1).congr fun m' => ?_⟩
          rw [tk]
          constructor
          · rintro ((y | y) | y)
            · exact .inl y
            · exact .inr ⟨y.1, List.mem_append_left _ y.2⟩
            · exact .inr ⟨y, by simp⟩
          · rintro (y | y)
            · exact .inl (.inl y)
            · exact .inr y.1
        · have dd : d' ≠ d := fun y => by
            rw [y] at e'
            exact z ((List.getElem?_inj hs2 e3).mp (ed.trans e'.symm)).symm
          obtain ⟨kvs', h3, h4⟩ := hd4 s' d' e'
          refine ⟨kvs', by rw [upd_ne dd]; exact h3, h4.congr fun m' => ?_⟩
          rw [tk]
          constructor
          · rintro (y | y)
            · exact .inl y
            · exact .inr ⟨y.1, List.mem_append_left _ y.2⟩
          · rintro (y | y)
            · exact .inl y
            · exact .inr ⟨y.1, (List.mem_append.mp y.2).elim id fun y => absurd (List.mem_singleton.mp y) z⟩
      · obtain ⟨y5, rfl, sb4, hD4, hdl4, atc4, hd4⟩ := hW
        refine ⟨_, _, _, _, rfl, sb4, hD4, hdl4, fun s d e => ?_⟩
        obtain ⟨kvs, h1, h2⟩ := hd4 s d e
        have hs2 : s < g.n := by have := (List.getElem?_eq_some_iff.mp e).1; omega
        refine ⟨kvs, h1, h2.congr fun m' => ?_⟩
        rw [natV_len, List.take_length]
        constructor
        · rintro (⟨k, t', hk, e5, e6⟩ | ⟨e5, e6⟩)
          · exact ⟨k, t', by omega, e5, e6⟩
          · exact ⟨i, t, Nat.lt_succ_self _, by rw [e5]; exact eh, by rw [← e8]; exact ((I.mem_chain e7).mp e6).2⟩
        · rintro ⟨k, t', hk, e5, e6⟩
          by_cases hki : k < i
          · exact .inl ⟨k, t', hki, e5, e6⟩
          · have : k = i := by omega
            subst this
            rw [eh] at e5
            cases e5
            exact .inr ⟨rfl, (I.mem_chain e7).mpr ⟨hs2, by rw [e8]; exact e6⟩⟩
    · obtain ⟨y3, y4, y5, y6, rfl, sb, hD3, hdl3, hds⟩ := hW
      rw [wrl] at hds
      refine ⟨_, rfl, q H' D es dl ⟨sb, F, hD3, e2, hds, hdl3, hD, e4, ndl0, ?_, Nat.le_trans gn (by decide)⟩⟩
      rw [List.nodup_append]
      exact ⟨e3, by simp, fun x hx y hy z => by rw [List.mem_singleton.mp hy] at z; exact dles (z ▸ hx)⟩
def spMachine (K : PySem.W.Frag) : Sp := fun vs H Q _ => ∃ (h : Addr) (L : PL), vs = [.ref h] ∧ HsAt K H h L ∧ HouseOk L ∧
  (L = [] → ∀ H' l d, Same H H' → H l = none → H d = none → H' l = some (.lst [.ref d]) → H' d = some (.dK []) → Q (.ref l) H') ∧
  (L ≠ [] → ∀ H' l g rep ds dl, MachAt H H' l L g rep ds dl → Q (.ref l) H')
theorem sc_machine : FnScope ["house"] ["house"] (defScope s_machine) := ⟨rfl, rfl, rfl, by decide +kernel, rfl, by decide +kernel, by decide +kernel⟩
theorem ok_machine (T : Txt K mg ea) (c_Growth : C8.Mak P w K mg base 5 "Growth" ea.c_Growth (spInitG K ea.c_Growth) []) (c_Growth_marked_edges : C8.Met P w K mg base 2 ea.c_Growth "marked_edges" (spMarked ea.c_Growth) []) : Cl P w K mg base 7 "machine" (spMachine K) := by
  have nd := sc_machine.nd
  refine cl_of T.d_machine sc_machine (fun vs H Q E h => ?_) (fun f cdv A outer s0 H vs Q E hr h => ?_)
  · obtain ⟨hh, L, rfl, _⟩ := h
    rfl
  · obtain ⟨hh, L, rfl, hA, ok, q1, q2⟩ := h
    refine ⟨_, (pss_cons (ps_if (pt_cmpR op_eq (pe_callB call_len_seq (by rfl) T.b_len PySem.boot_len (pa_cons (pv 0) pa_nil)) pe_int (nomark _))
        (pss_one (ps_ret (pe_lst (pa_cons pe_dnewK pa_nil))))
        pss_nil)
      (pss_one (ps_ret (C8.pe_mt0 c_Growth_marked_edges hr (by decide) (C8.pe_mk c_Growth hr (by decide) (by rfl) (pa_cons (pv 0) pa_nil)))))), ?_⟩
    have rl : (refs L).length = L.length := List.length_map ..
    refine ⟨_, rfl, hh, _, rfl, .inl hA.1, rfl, _, rfl, ite2 (fun e => ?_) (fun e => ?_)⟩
    · have hl0 : L = [] := by
        have := V.int.inj (of_decide_eq_true e)
        rw [rl] at this
        exact List.eq_nil_of_length_eq_zero (by omega)
      refine fun d nd0 => ⟨(by show 1 ≤ sizeLine; decide), fun l nl => ?_⟩
      exact q1 hl0 _ l d ((same_new nd0).trans (same_new nl)) ((same_new nd0).free nl) nd0 upd_same (same_new nl _ _ upd_same)
    have hl0 : L ≠ [] := fun z => e (decide_eq_true (by rw [z]; rfl))
    refine ⟨_, rfl, fun x dx nx ndx nex => ?_⟩
    have s0' : Same H (upd (upd H dx (.own x)) x (.ins ea.c_Growth dx [])) := (same_new ndx).trans (same_new (by rw [upd_ne nex.symm]; exact nx))
    refine ⟨H, x, hh, dx, L, rfl, s0', nx, upd_same, hA, ok, fun H1 g rep a T1 Gr => ⟨rfl, ?_⟩⟩
    exact ⟨x, _, _, rfl, Gr.at_.hp, rfl, H, x, L, g, rep, a, T1, rfl, Gr, ok, fun H' l ds dl M => q2 hl0 H' l g rep ds dl (M.back Gr.at_.sm)⟩
end

end SH
set_option Elab.async false
set_option linter.all false
set_option maxRecDepth 100000
set_option maxHeartbeats 4000000
namespace SH
open PySem PySem.Spec PyProof.Rows L2
section
variable {P : Program} {w : World} {K : PySem.W.Frag} {mg : Str → Option Value} {base : Heap} {ea : Ea}
/-- the number of letters of a class's shortest word -/
def spLeast (C : Addr) : Sp := fun vs H Q _ => ∃ (p : Addr) (g : Sam.G) (a : Ad) (s : Nat), vs = [.ref p, .int (s : Int)] ∧ H p = some (.ins C a.dx (flds a)) ∧ H a.L = some (.lst (linksOf g)) ∧ H a.S = some (.lst (sizesOf g)) ∧ Okg g ∧ s < g.n ∧ ∀ H', Same H H' → Q (.int (Sam.leastSz g s : Int)) H'
theorem sc_Growth_least_size : FnScope ["self", "state", "link"] ["self", "state"] (defScope s_Growth_least_size) := ⟨rfl, rfl, rfl, by decide +kernel, rfl, by decide +kernel, by decide +kernel⟩
theorem ok_Growth_least_size (T : Txt K mg ea) : C8.Met P w K mg base 1 ea.c_Growth "least_size" (spLeast ea.c_Growth) [] := by
  have nd := sc_Growth_least_size.nd
  refine met_of T.d_Growth_least_size T.l_Growth sc_Growth_least_size (fun vs H Q E h => ?_) (fun f cdv A outer s0 H vs Q E hr h => ?_)
  · obtain ⟨p, g, a, s, rfl, _⟩ := h
    rfl
  · obtain ⟨p, g, a, s, rfl, hp, hL, hS, O, hs, q⟩ := h
    refine ⟨_, (pss_cons (ps_set (i := 2) nd rfl (.inl rfl) (pe_ix (ixl (K := K)) (pe_fldK (K := K) (pv 0) rfl) (pv 1) (fun _ _ => rfl)))
      (pss_cons (ps_if (pt_cmpR op_isN (pv 2) pe_non (nomark _))
        (pss_one (ps_ret pe_int))
        pss_nil)
      (pss_one (ps_ret (pe_op op_add (pe_ix (ixl (K := K)) (pe_fldK (K := K) (pv 0) rfl) (pv 2) (fun _ _ => rfl)) pe_int))))), ?_⟩
    refine ⟨_, rfl, p, _, _, _, _, rfl, hp, T.l_Growth, T.n_Growth_links, fl_links a, _, rfl, a.L, _, _, _, rfl, rfl, SqL.of hL, links_at hs, ?_⟩
    have q' := q H (Same.refl _)
    unfold Sam.leastSz at q'
    cases e : g.lk s with
    | none =>
      rw [e] at q'
      exact ⟨_, rfl, rfl, _, rfl, q'⟩
    | some j =>
      rw [e] at q'
      have hj := (O.dec s hs j e).1
      refine ⟨_, rfl, rfl, _, rfl, _, rfl, p, _, _, _, _, rfl, hp, T.l_Growth, T.n_Growth_sizes, fl_sizes a, _, rfl, a.S, _, _, _, rfl, rfl, SqL.of hS, sizes_at hj, _, _, rfl, rfl, ?_⟩
      have e9 : ((g.sz j + 1 : Nat) : Int) = (g.sz j : Int) + 1 := by omega
      show Q (.int ((g.sz j : Int) + 1)) H
      rw [← e9]
      exact q'
end

end SH
set_option Elab.async false
set_option linter.all false
set_option maxRecDepth 100000
set_option maxHeartbeats 4000000
namespace SH
open PySem PySem.Spec PyProof.Rows L2
/-- tuples of a number and a stop -/
abbrev PT := List (Addr × Int × Nat)
def prefs (R : PT) : List V := R.map fun q => .ref q.1
def PAt (H : Hp) (R : PT) : Prop := ∀ q ∈ R, H q.1 = some (.tup [.int q.2.1, .int (q.2.2 : Int)])
theorem PAt.same {H H' : Hp} {R : PT} (h : PAt H R) (s : Same H H') : PAt H' R := fun q m => s _ _ (h q m)
theorem PAt.setL {H : Hp} {R : PT} (h : PAt H R) {r : Addr} {xs ys : List V} (e : H r = some (.lst xs)) : PAt (upd H r (.lst ys)) R := fun q m => by
  rw [upd_ne (fun z => by have := h q m; rw [z, e] at this; cases this)]
  exact h q m
theorem prefs_app (R S : PT) : prefs (R ++ S) = prefs R ++ prefs S := List.map_append ..
theorem prefs_len (R : PT) : (prefs R).length = R.length := List.length_map ..
/-- the beginnings' places so far -/
def dirK (hs : List (Int × Sam.Wd)) (i j : Nat) (v : Sam.Wd) (q : Int × Nat) : Prop := ∃ (k : Nat) (t : Sam.Wd), hs[k]? = some (q.1, t) ∧ q.2 ≤ t.length ∧ t.take q.2 = v ∧ (k < i ∨ (k = i ∧ q.2 < j))
/-- lists of such tuples, one a class -/
def RowsAt (H : Hp) (rs : List Addr) (Pk : Nat → List (Int × Nat) → Prop) : Prop := ∀ k r, rs[k]? = some r → ∃ R : PT, H r = some (.lst (prefs R)) ∧ PAt H R ∧ Pk k (R.map (·.2))
theorem ends_len (w t : Sam.Wd) : (Sam.endsIn w t).length ≤ t.length + 1 := by
  unfold Sam.endsIn
  refine Nat.le_trans (List.length_filter_le ..) ?_
  rw [List.length_range]
  exact Nat.le_refl _
theorem plc_len {w : Sam.Wd} : ∀ {hs : List (Int × Sam.Wd)}, (∀ q ∈ hs, q.2.length ≤ 40) → (Sam.plc hs w).length ≤ 41 * hs.length
  | [], _ => Nat.zero_le _
  | q :: r, h => by
    have i1 := plc_len (w := w) (hs := r) fun x m => h x (List.mem_cons_of_mem _ m)
    have i2 := ends_len w q.2
    have i3 := h q (List.mem_cons_self ..)
    show ((Sam.endsIn w q.2).map (fun k => (q.1, k)) ++ Sam.plc r w).length ≤ _
    rw [List.length_append, List.length_map, List.length_cons]
    omega
theorem row_len {hs : List (Int × Sam.Wd)} {g : Sam.G} {rep : Nat → Sam.Wd} {i k : Nat} {r : List (Int × Nat)} (h : ∀ q ∈ hs, q.2.length ≤ 40) (R : Sam.Row hs g rep i k r) : r.length ≤ 41 * hs.length := by
  refine Nat.le_trans (nd_sub r (Sam.plc hs []) R.nd fun q hq => ?_) (plc_len h)
  obtain ⟨m, st⟩ := q
  rcases (R.mem _).mp hq with ⟨t, h1, h2, _⟩ | ⟨j, _, _, _, h3⟩
  · exact Sam.mem_plc.mpr ⟨t, h1, h2, List.nil_suffix⟩
  · obtain ⟨t, h1, h2, _⟩ := Sam.mem_plc.mp h3
    exact Sam.mem_plc.mpr ⟨t, h1, h2, List.nil_suffix⟩
theorem hs_inj {hs : List (Int × Sam.Wd)} (asc : (hs.map (·.1)).Pairwise (· < ·)) {i k : Nat} {m : Int} {t t' : Sam.Wd} (h1 : hs[i]? = some (m, t)) (h2 : hs[k]? = some (m, t')) : i = k := by
  have nd : (hs.map (·.1)).Nodup := asc.imp fun h e => by rw [e] at h; omega
  have hi := (List.getElem?_eq_some_iff.mp h1).1
  refine (List.getElem?_inj (by rw [List.length_map]; exact hi) nd).mp ?_
  rw [List.getElem?_map, List.getElem?_map, h1, h2]
  rfl
/-- one place more -/
theorem dirK_step {hs : List (Int × Sam.Wd)} {i j : Nat} {m : Int} {t v : Sam.Wd} (h : hs[i]? = some (m, t)) (hj : j ≤ t.length) (q : Int × Nat) : dirK hs i (j + 1) v q ↔ dirK hs i j v q ∨ (q = (m, j) ∧ t.take j = v) := by
  constructor
  · rintro ⟨k, t', h1, h2, h3, h4⟩
    rcases h4 with h4 | ⟨h4, h5⟩
    · exact .inl ⟨k, t', h1, h2, h3, .inl h4⟩
    · by_cases e : q.2 = j
      · subst h4
        rw [h] at h1
        obtain ⟨q1, q2⟩ := q
        have e : q2 = j := e
        subst e
        cases h1
        exact .inr ⟨rfl, h3⟩
      · exact .inl ⟨k, t', h1, h2, h3, .inr ⟨h4, by omega⟩⟩
  · rintro (⟨k, t', h1, h2, h3, h4⟩ | ⟨rfl, h3⟩)
    · exact ⟨k, t', h1, h2, h3, h4.imp id fun h4 => ⟨h4.1, by omega⟩⟩
    · exact ⟨i, t, h, hj, h3, .inr ⟨rfl, Nat.lt_succ_self _⟩⟩
theorem dirK_next {hs : List (Int × Sam.Wd)} {i j : Nat} {m : Int} {t v : Sam.Wd} (h : hs[i]? = some (m, t)) (hj : t.length < j) (q : Int × Nat) : dirK hs i j v q ↔ dirK hs (i + 1) 0 v q := by
  constructor
  · rintro ⟨k, t', h1, h2, h3, h4⟩
    exact ⟨k, t', h1, h2, h3, .inl (by omega)⟩
  · rintro ⟨k, t', h1, h2, h3, h4 | h4⟩
    · by_cases e : k < i
      · exact ⟨k, t', h1, h2, h3, .inl e⟩
      · have : k = i := by omega
        subst this
        rw [h] at h1
        cases h1
        exact ⟨k, t, h, h2, h3, .inr ⟨rfl, by omega⟩⟩
    · exact absurd h4.2 (Nat.not_lt_zero _)
theorem dirK_all {hs : List (Int × Sam.Wd)} {v : Sam.Wd} (q : Int × Nat) : dirK hs hs.length 0 v q ↔ Sam.dirP hs v q := by
  constructor
  · rintro ⟨k, t, h1, h2, h3, _⟩
    exact ⟨t, List.mem_of_getElem? h1, h2, h3⟩
  · rintro ⟨t, h1, h2, h3⟩
    obtain ⟨k, hk, e⟩ := List.getElem_of_mem h1
    exact ⟨k, t, by rw [List.getElem?_eq_getElem hk, e], h2, h3, .inl hk⟩
section
variable {P : Program} {w : World} {K : PySem.W.Frag} {mg : Str → Option Value} {base : Heap} {ea : Ea}
def spPairs (C : Addr) : Sp := fun vs H Q _ => ∃ (H0 : Hp) (p : Addr) (L : PL) (g : Sam.G) (rep : Nat → Sam.Wd) (a : Ad) (T : WT), vs = [.ref p] ∧ Grown C H0 H p L g rep a T ∧ HouseOk L ∧
  ∀ H' l rs, Same H H' → H l = none → H' l = some (.lst (rs.map V.ref)) → rs.length = g.n → (∀ r ∈ rs, H r = none) → RowsAt H' rs (fun k ps => ps = Sam.plc (hsOf L) (rep k)) → Q (.ref l) H'
theorem sc_Growth_pairs : FnScope ["self", "found", "number", "way", "stop", "state", "link", "row"] ["self"] (defScope s_Growth_pairs) := ⟨rfl, rfl, rfl, by decide +kernel, rfl, by decide +kernel, by decide +kernel⟩
theorem ok_Growth_pairs (T : Txt K mg ea) : C8.Met P w K mg base 1 ea.c_Growth "pairs" (spPairs ea.c_Growth) [] := by
  have nd := sc_Growth_pairs.nd
  refine met_of T.d_Growth_pairs T.l_Growth sc_Growth_pairs (fun vs H Q E h => ?_) (fun f cdv A outer s0 H vs Q E hr h => ?_)
  · obtain ⟨H0, p, L, g, rep, a, T1, rfl, _⟩ := h
    rfl
  · obtain ⟨H0, p, L, g, rep, a, T1, rfl, Gr, ok, q⟩ := h
    refine ⟨_, (pss_cons (ps_setLc (i := 1) (own := [("link", 6)]) (g := (gName 6)) rfl nd rfl rfl (sw_true rfl rfl rfl (by decide +kernel)) (pi_listK (K := K) (pe_fldK (K := K) (pv 0) rfl)) (blkOk_by (own := [("link", 6)]) (N := ["self", "found", "number", "way", "stop", "state", "link", "row"]) (sc := defScope s_Growth_pairs) (by decide +kernel)) (fun _ _ _ _ _ => (pg_name (i := 6) nd rfl (.inl rfl))) (fun _ _ _ _ _ => pts_nil) (fun _ _ _ _ _ => (pe_lst pa_nil)))
      (pss_cons (ps_for PassesOwn.never rfl (pi_listK (K := K) (pe_fldK (K := K) (pv 0) rfl)) (pg_tup rfl (pgs_cons (pg_name (i := 2) nd rfl (.inl rfl)) (pgs_cons (pg_name (i := 3) nd rfl (.inl rfl)) pgs_nil)))
        (pss_one (ps_for PassesOwn.never rfl (pi_enum (by rfl) T.b_enumerate (pa_cons (pv 3) pa_nil)) (pg_tup rfl (pgs_cons (pg_name (i := 4) nd rfl (.inl rfl)) (pgs_cons (pg_name (i := 5) nd rfl (.inl rfl)) pgs_nil)))
            (pss_one (ps_expr (pe_bm PySem.F.plainAttrs_list PySem.F.slot_list_append PySem.F.type_list_append mt_append (pe_ix (ixl (K := K)) (pv 1) (pv 5) (fun _ _ => rfl)) (pa_cons (pe_tup (pa_cons (pv 2) (pa_cons (pv 4) pa_nil))) pa_nil)))))))
      (pss_cons (ps_for PassesOwn.never rfl (pi_range3 rfl T.b_range (pa_cons (pe_op op_sub (pe_callB call_len_seq (by rfl) T.b_len PySem.boot_len (pa_cons (pv 1) pa_nil)) pe_int) (pa_cons pe_int (pa_cons (pe_un un_neg pe_int) pa_nil)))) (pg_name (i := 5) nd rfl (.inl rfl))
        (pss_cons (ps_set (i := 6) nd rfl (.inl rfl) (pe_ix (ixl (K := K)) (pe_fldK (K := K) (pv 0) rfl) (pv 5) (fun _ _ => rfl)))
          (pss_one (ps_asg (pe_op op_cat (pe_ix (ixl (K := K)) (pv 1) (pv 6) (fun _ _ => rfl)) (pe_ix (ixl (K := K)) (pv 1) (pv 5) (fun _ _ => rfl))) (pg_sub (pv 1) (pv 6) set_list)))))
      (pss_one (ps_ret (pe_lc (own := [("row", 7)]) (g := (gName 7)) rfl nd (pi_listK (K := K) (pv 1)) (blkOk_by (own := [("row", 7)]) (N := ["self", "found", "number", "way", "stop", "state", "link", "row"]) (sc := defScope s_Growth_pairs) (by decide +kernel)) (fun _ _ _ _ _ => (pg_name (i := 7) nd rfl (.inl rfl))) (fun _ _ _ _ _ => pts_nil) (fun _ _ _ _ _ => (pe_callB (cr_sortedPOK (K := K)) (by rfl) T.b_sorted (by decide +kernel) (pa_cons (pv 7) pa_nil))))))))), ?_⟩
    have G := Gr.at_
    have F := Gr.fin
    have I := F.inv
    have gn := Gr.n
    have hsl : (hsOf L).length = L.length := List.length_map ..
    have fw := ok.few
    have asc : ((hsOf L).map (·.1)).Pairwise (· < ·) := by
      have : (hsOf L).map (·.1) = L.map (·.2.1) := by unfold hsOf; rw [List.map_map]; rfl
      rw [this]
      exact ok.asc
    -- empty lists
    refine ⟨_, rfl, p, _, _, _, _, rfl, G.hp, T.l_Growth, T.n_Growth_links, fl_links a, a.L, rfl, ⟨_, SqL.of G.hL⟩, fun F1 nF' => ?_⟩
    refine lc_w (walk_list (xs := linksOf g)) nF' (by rw [links_len]; omega) (fun H' e => SqL.of (e _ _ G.hL)) (fun i acc H' => ∃ rs : List Addr, acc = rs.map V.ref ∧ rs.length = i ∧ rs.Nodup ∧ ∀ r ∈ rs, H r = none ∧ H' r = some (.lst []) ∧ r ≠ F1) (fun _ _ => ⟨[], rfl, rfl, by simp, fun r h => nomatch h⟩) (fun i acc H5 H6 l0 h0 but r => ?_) (fun i H x H' y => by rw [y.1]; exact Same.refl _)
      (fun i x acc H5 H6 Qn Qf hi sm y r at_ kn_ kf => ?_) (fun acc H1 sm1 atF _ rF => ?_)
    · obtain ⟨rs, r1, r2, r3, r4⟩ := r
      exact ⟨rs, r1, r2, r3, fun r m => ⟨(r4 r m).1, but _ _ (r4 r m).2.2 (r4 r m).2.1, (r4 r m).2.2⟩⟩
    · obtain ⟨rfl, hx⟩ := y
      obtain ⟨rs, r1, r2, r3, r4⟩ := r
      refine ⟨rfl, Nat.zero_le _, fun r0 nr0 => ?_⟩
      have s7 := same_new (o := .lst []) nr0
      refine kn_ _ _ s7 ⟨rs ++ [r0], by rw [r1, List.map_append]; rfl, by rw [List.length_append, r2]; rfl, ?_, fun r m => ?_⟩
      · rw [List.nodup_append]
        exact ⟨r3, by simp, fun x hx y hy z => by rw [List.mem_singleton.mp hy] at z; have := (r4 x hx).2.1; rw [z, nr0] at this; cases this⟩
      · rcases List.mem_append.mp m with m | m
        · exact ⟨(r4 r m).1, s7 _ _ (r4 r m).2.1, (r4 r m).2.2⟩
        · rw [List.mem_singleton.mp m]
          exact ⟨sm.free nr0, upd_same, fun z => by rw [z, at_] at nr0; cases nr0⟩
    obtain ⟨rs, rF1, rF2, rF3, rF4⟩ := rF
    rw [links_len] at rF2
    rw [rF1] at atF
    have hs40 : ∀ q ∈ hsOf L, q.2.length ≤ 40 := fun q hq => by
      obtain ⟨t, ht, rfl⟩ := List.mem_map.mp hq
      have := (ok.txt t ht).2
      rw [TL.len_tl] at this
      exact this
    obtain ⟨okl, okt⟩ := Gr.ok
    have wrl : (wrefs T1).length = (hsOf L).length := by rw [← okl]; exact List.length_map ..
    have rsH : ∀ r ∈ rs, H r = none := fun r m => (rF4 r m).1
    have rsI : ∀ {H' : Hp} {st : Nat}, st < g.n → ∃ r, rs[st]? = some r ∧ r ∈ rs ∧ atI (rs.map V.ref) (st : Int) = some (.ref r) := fun {H' st} hst => by
      have h1 : st < rs.length := by omega
      have e : rs[st]? = some rs[st] := List.getElem?_eq_getElem h1
      exact ⟨_, e, List.getElem_mem h1, atI_nat (by rw [List.getElem?_map, e]; rfl)⟩
    -- the beginnings' places
    refine ⟨_, rfl, p, _, _, _, _, rfl, sm1 _ _ G.hp, T.l_Growth, T.n_Growth_ways, fl_ways a, a.W, rfl, ⟨_, SqL.of (sm1 _ _ G.hW)⟩, ?_⟩
    refine for_list (K := K) (a := a.W) (xs := wrefs T1) (fun i σ H' => ∃ (y2 y3 y4 y5 : Option V), σ = [some (.ref p), some (.ref F1), y2, y3, y4, y5, none, none] ∧ Same H H' ∧ H' F1 = some (.lst (rs.map V.ref)) ∧ RowsAt H' rs (fun k ps => ps.Nodup ∧ ps.length ≤ 41 * i ∧ ∀ q, q ∈ ps ↔ dirK (hsOf L) i 0 (rep k) q))
      ⟨none, none, none, none, rfl, sm1, atF, fun k r e => ⟨[], (rF4 r (List.mem_of_getElem? e)).2.1, (fun q m => nomatch m), List.Pairwise.nil, Nat.zero_le _, fun q => ⟨(fun m => nomatch m), fun ⟨k, t, _, _, _, z⟩ => z.elim (fun z => absurd z (Nat.not_lt_zero _)) fun z => absurd z.2 (Nat.not_lt_zero _)⟩⟩⟩ (fun i σ H' _ hW => ?_) (fun i y σ H' hx hW => ?_) (fun σ H' hW => ?_)
    · obtain ⟨y2, y3, y4, y5, rfl, sb, _⟩ := hW
      exact SqL.of (sb _ _ G.hW)
    · obtain ⟨y2, y3, y4, y5, rfl, sb, atF', rows⟩ := hW
      have hi : i < (hsOf L).length := by
        have := (List.getElem?_eq_some_iff.mp hx).1
        omega
      have eh : (hsOf L)[i]? = some ((hsOf L)[i].1, (hsOf L)[i].2) := List.getElem?_eq_getElem hi
      have t40 := hs40 _ (List.getElem_mem hi)
      generalize (hsOf L)[i].1 = m at eh
      generalize (hsOf L)[i].2 = t at eh t40
      obtain ⟨q1, eq, em, wo⟩ := okt i m t eh
      unfold wrefs at hx
      rw [List.getElem?_map, eq] at hx
      have hx := Option.some.inj hx
      subst hx em
      obtain ⟨w1, w2⟩ := Gr.wa q1 (List.mem_of_getElem? eq)
      refine ⟨_, _, rfl, .inl (.inl (sb _ _ w1)), rfl, _, _, rfl, _, _, rfl, rfl, ?_⟩
      refine ⟨_, rfl, q1.2.1, _, rfl, SqL.of (sb _ _ w2), ?_⟩
      refine for_it (walk_enum (K := K) (a := q1.2.1) (xs := natV q1.2.2.2)) (fun j σ H' => ∃ (y4 y5 : Option V), σ = [some (.ref p), some (.ref F1), some (.int q1.2.2.1), some (.ref q1.2.1), y4, y5, none, none] ∧ Same H H' ∧ H' F1 = some (.lst (rs.map V.ref)) ∧ RowsAt H' rs (fun k ps => ps.Nodup ∧ ps.length ≤ 41 * i + j ∧ ∀ q, q ∈ ps ↔ dirK (hsOf L) i j (rep k) q))
        ⟨y4, y5, rfl, sb, atF', rows⟩ (fun j σ H' _ hW => ?_) (fun j y σ HA HB hj hW hy => ?_) (fun σ H' hW => ?_)
      · obtain ⟨y4, y5, rfl, sb2, _⟩ := hW
        exact SqL.of (sb2 _ _ w2)
      · obtain ⟨y4, y5, rfl, sb2, atF2, rows2⟩ := hW
        obtain ⟨tt, x1, x2, rfl, nt, rfl, e1, e2⟩ := hy
        cases e1
        rw [natV_len] at hj
        have wl := wo.len
        have hj2 : j ≤ t.length := by omega
        obtain ⟨st, f1, f2, f3⟩ := wo.at_ j hj2
        have e2 : (natV q1.2.2.2)[j]? = some x2 := e2
        unfold natV at e2
        rw [List.getElem?_map, f1] at e2
        have e2 := Option.some.inj e2
        subst e2
        have s3 := same_new (o := .tup [.int (j : Int), .int (st : Int)]) nt
        obtain ⟨r, re, rm, rI⟩ := rsI (H' := H) f2
        obtain ⟨R, h1, h2, h3, h4, h5⟩ := rows2 st r re
        refine ⟨_, _, rfl, .inl (.inl upd_same), rfl, _, _, rfl, _, _, rfl, rfl, ?_⟩
        refine ⟨_, rfl, _, rfl, F1, _, _, _, rfl, rfl, SqL.of (s3 _ _ atF2), rI, .inl ⟨rfl, _, SqL.of (s3 _ _ h1)⟩, _, rfl, _, rfl, (by show 2 ≤ sizeLine; decide), fun t2 nt2 => ?_⟩
        have s4 := s3.trans (same_new (o := .tup [.int q1.2.2.1, .int (j : Int)]) nt2)
        have Rl : R.length = (R.map (·.2)).length := by rw [List.length_map]
        refine ⟨r, _, _, rfl, rfl, s4 _ _ h1, sz1000 (by rw [prefs_len]; omega), ?_⟩
        have rF1n : r ≠ F1 := (rF4 r rm).2.2
        have tr : t2 ≠ r := fun z => by rw [z, s3 _ _ h1] at nt2; cases nt2
        have np : prefs R ++ [V.ref t2] = prefs (R ++ [(t2, q1.2.2.1, j)]) := by rw [prefs_app]; rfl
        rw [np]
        refine ⟨_, _, rfl, same_mut (sb2.trans s4) (rsH r rm), by rw [upd_ne rF1n.symm]; exact s4 _ _ atF2, fun k r' e' => ?_⟩
        by_cases z : k = st
        · subst z
          rw [re] at e'
          cases e'
          refine ⟨_, upd_same, fun q hq => ?_, ?_, ?_, fun q => ?_⟩
          · rcases List.mem_append.mp hq with y | y
            · exact ((h2.same s4).setL (s4 _ _ h1)) q y
            · rw [List.mem_singleton.mp y, upd_ne tr]
              exact upd_same
          · rw [List.map_append, List.nodup_append]
            refine ⟨h3, by simp, fun x hx y hy z => ?_⟩
            have hy := List.mem_singleton.mp hy
            rw [z, hy] at hx
            obtain ⟨k', t', g1, g2, g3, g4⟩ := (h5 _).mp hx
            have := hs_inj asc eh g1
            rcases g4 with g4 | ⟨_, g4⟩
            · omega
            · exact Nat.lt_irrefl _ g4
          · rw [List.map_append, List.length_append]
            show _ + 1 ≤ _
            omega
          · rw [List.map_append, List.mem_append, h5, dirK_step eh hj2]
            constructor
            · rintro (y | y)
              · exact .inl y
              · exact .inr ⟨List.mem_singleton.mp y, f3.symm⟩
            · rintro (y | y)
              · exact .inl y
              · exact .inr (by rw [y.1]; exact List.mem_singleton.mpr rfl)
        · obtain ⟨R', h1', h2', h3', h4', h5'⟩ := rows2 k r' e'
          have rr : r' ≠ r := fun y => by
            rw [y] at e'
            exact z ((List.getElem?_inj (List.getElem?_eq_some_iff.mp re).1 rF3).mp (re.trans e'.symm)).symm
          refine ⟨R', by rw [upd_ne rr]; exact s4 _ _ h1', (h2'.same s4).setL (s4 _ _ h1), h3', by omega, fun q => ?_⟩
          rw [h5', dirK_step eh hj2]
          refine ⟨.inl, fun y => y.elim id fun y => absurd ?_ z⟩
          have hk : k < g.n := by have := (List.getElem?_eq_some_iff.mp e').1; omega
          exact I.inj k st hk f2 (y.2.symm.trans f3.symm)
      · obtain ⟨y4, y5, rfl, sb2, atF2, rows2⟩ := hW
        rw [natV_len, wo.len] at rows2
        refine ⟨_, _, _, _, rfl, sb2, atF2, fun k r e => ?_⟩
        obtain ⟨R, h1, h2, h3, h4, h5⟩ := rows2 k r e
        exact ⟨R, h1, h2, h3, by omega, fun q => (h5 q).trans (dirK_next eh (Nat.lt_succ_self _) q)⟩
    · obtain ⟨y2, y3, y4, y5, rfl, sb, atF', rows⟩ := hW
      rw [wrl] at rows
      have hn := I.n0
      -- along the links
      have e0 : ((rs.map V.ref).length : Int) - 1 = ((g.n - 1 : Nat) : Int) := by rw [List.length_map, rF2]; omega
      refine ⟨_, rfl, F1, _, rfl, .inl (SqL.of atF'), _, _, rfl, rfl, 1, rfl, _, _, _, _, rfl, RgC.neg (by show -(2 ^ 62) ≤ ((rs.map V.ref).length : Int) - 1; omega) (by show ((rs.map V.ref).length : Int) - 1 < 2 ^ 62; omega) (by decide) (by decide), ?_⟩
      have en : (((rs.map V.ref).length : Int) - 1 - 0).toNat = g.n - 1 := by omega
      show ∃ W, _
      rw [en]
      refine for_it (walk_rangeC (lo := ((rs.map V.ref).length : Int) - 1) (c := -1) (n := g.n - 1)) (fun u σ H' => ∃ (rs' : List Addr) (y2 y3 y4 y5 y6 : Option V), σ = [some (.ref p), some (.ref F1), y2, y3, y4, y5, y6, none] ∧ Same H H' ∧ H' F1 = some (.lst (rs'.map V.ref)) ∧ rs'.length = g.n ∧ (∀ r ∈ rs', H r = none ∧ r ≠ F1) ∧ RowsAt H' rs' (fun k ps => Sam.Row (hsOf L) g rep (g.n - u) k ps))
        ⟨rs, y2, y3, y4, y5, none, rfl, sb, atF', rF2, (fun r m => ⟨rsH r m, (rF4 r m).2.2⟩), fun k r e => ?_⟩ (fun _ _ _ _ _ => trivial) (fun u y σ HA HB hu hW hy => ?_) (fun σ H' hW => ?_)
      · obtain ⟨R, h1, h2, h3, h4, h5⟩ := rows k r e
        refine ⟨R, h1, h2, h3, fun q => ?_⟩
        rw [h5, dirK_all]
        exact ⟨.inl, fun z => z.elim id fun ⟨j, hj, hj2, _⟩ => by omega⟩
      · obtain ⟨rs', y2, y3, y4, y5, y6, rfl, sb2, atF2, ln2, fr2, rows2⟩ := hW
        obtain ⟨rfl, rfl⟩ := hy
        have es : ((rs.map V.ref).length : Int) - 1 + (u : Nat) * (-1) = ((g.n - 1 - u : Nat) : Int) := by omega
        show gName 5 (V.int (((rs.map V.ref).length : Int) - 1 + (u : Nat) * (-1))) _ HB _
        rw [es]
        generalize hsd : g.n - 1 - u = s
        have sn : s < g.n := by omega
        obtain ⟨k0, ek, kl⟩ := F.lk_some sn (by omega)
        have kn : k0 < g.n := by omega
        have rI : ∀ {k : Nat}, k < g.n → ∃ r, rs'[k]? = some r ∧ atI (rs'.map V.ref) (k : Int) = some (.ref r) := fun {k} hk => by
          have h1 : k < rs'.length := by omega
          have e : rs'[k]? = some rs'[k] := List.getElem?_eq_getElem h1
          exact ⟨_, e, atI_nat (by rw [List.getElem?_map, e]; rfl)⟩
        obtain ⟨r1, re1, rI1⟩ := rI kn
        obtain ⟨r2, re2, rI2⟩ := rI sn
        obtain ⟨R1, a1, a2, a3⟩ := rows2 k0 r1 re1
        obtain ⟨R2, b1, b2, b3⟩ := rows2 s r2 re2
        have l1 := row_len hs40 a3
        have l2 := row_len hs40 b3
        rw [List.length_map] at l1 l2
        have lk := links_at sn
        rw [ek] at lk
        refine ⟨_, rfl, p, _, _, _, _, rfl, sb2 _ _ G.hp, T.l_Growth, T.n_Growth_links, fl_links a, _, rfl, a.L, _, _, _, rfl, rfl, SqL.of (sb2 _ _ G.hL), lk, ?_⟩
        refine ⟨_, rfl, _, rfl, F1, _, _, _, rfl, rfl, SqL.of atF2, rI1, _, rfl, _, rfl, F1, _, _, _, rfl, rfl, SqL.of atF2, rI2, r1, r2, _, _, rfl, rfl, a1, b1, Nat.le_of_lt (sz1000 (by rw [prefs_len, prefs_len]; omega)), fun np nnp => ?_⟩
        have s5 := same_new (o := .lst (prefs R1 ++ prefs R2)) nnp
        have atF3 := s5 _ _ atF2
        have nF : np ≠ F1 := fun z => by rw [z, atF2] at nnp; cases nnp
        refine ⟨_, rfl, _, rfl, F1, _, _, k0, rfl, rfl, atF3, ixN_nat (by rw [List.length_map]; omega), ?_⟩
        have eset : (rs'.map V.ref).set k0 (.ref np) = (rs'.set k0 np).map V.ref := by rw [List.map_set]
        rw [eset]
        have hF0 : H F1 = none := nF'
        have sbF := same_mut (o := .lst ((rs'.set k0 np).map V.ref)) (sb2.trans s5) hF0
        have eu : g.n - (u + 1) = s := by omega
        have eu1 : g.n - u = s + 1 := by omega
        rw [eu1] at rows2 a3 b3
        refine ⟨rs'.set k0 np, _, _, _, _, _, rfl, sbF, by rw [upd_same], by rw [List.length_set]; exact ln2, fun r hr => ?_, fun k r e => ?_⟩
        · rcases List.mem_or_eq_of_mem_set hr with m | m
          · exact fr2 r m
          · rw [m]; exact ⟨sb2.free nnp, nF⟩
        · rw [eu]
          by_cases z : k = k0
          · subst z
            rw [List.getElem?_set_self (by omega)] at e
            cases e
            refine ⟨R1 ++ R2, by rw [upd_ne nF, upd_same, prefs_app], fun q hq => ?_, ?_⟩
            · have hm : (upd HB np (.lst (prefs R1 ++ prefs R2))) q.1 = some (.tup [.int q.2.1, .int (q.2.2 : Int)]) := by
                rcases List.mem_append.mp hq with m | m
                · exact s5 _ _ (a2 q m)
                · exact s5 _ _ (b2 q m)
              rw [upd_ne (fun z => by rw [z, atF3] at hm; cases hm)]
              exact hm
            · rw [List.map_append]
              exact Sam.Row.step asc F a3 b3 sn ek
          · rw [List.getElem?_set_ne (Ne.symm z)] at e
            obtain ⟨R, c1, c2, c3⟩ := rows2 k r e
            have c1' := s5 _ _ c1
            refine ⟨R, by rw [upd_ne (fr2 r (List.mem_of_getElem? e)).2]; exact c1', (c2.same s5).setL atF3, c3.stay asc F (fun y => z (by rw [ek] at y; exact (Option.some.inj y).symm))⟩
      · obtain ⟨rs', y2, y3, y4, y5, y6, rfl, sb2, atF2, ln2, fr2, rows2⟩ := hW
        have e1 : g.n - (g.n - 1) = 1 := by omega
        rw [e1] at rows2
        -- sorted
        refine ⟨_, rfl, F1, rfl, ⟨_, SqL.of atF2⟩, fun D nD => ?_⟩
        refine lc_w (walk_list (xs := rs'.map V.ref)) nD (by rw [List.length_map]; omega) (fun H' e => SqL.of (e _ _ atF2)) (fun i acc H' => ∃ qs : List Addr, acc = qs.map V.ref ∧ qs.length = i ∧ (∀ r ∈ qs, H r = none ∧ r ≠ D) ∧ RowsAt H' qs (fun k ps => ps = Sam.plc (hsOf L) (rep k))) (fun _ _ => ⟨[], rfl, rfl, (fun r m => nomatch m), fun k r e => by simp at e⟩) (fun i acc H5 H6 l0 h0 but r => ?_) (fun i H x H' y => by rw [y.1]; exact Same.refl _)
          (fun i x acc HA HB Qn Qf hi sm y r at_ kn_ kf => ?_) (fun acc HA smA atD _ rD => ?_)
        · obtain ⟨qs, c1, c2, c3, c4⟩ := r
          refine ⟨qs, c1, c2, c3, fun k r e => ?_⟩
          obtain ⟨R, d1, d2, d3⟩ := c4 k r e
          exact ⟨R, but _ _ (c3 r (List.mem_of_getElem? e)).2 d1, fun q hq => but _ _ (fun z => by have := d2 q hq; rw [z, h0] at this; cases this) (d2 q hq), d3⟩
        · obtain ⟨rfl, hx⟩ := y
          obtain ⟨qs, c1, c2, c3, c4⟩ := r
          rw [List.length_map] at hi
          have e : rs'[i]? = some rs'[i] := List.getElem?_eq_getElem hi
          rw [List.getElem?_map, e] at hx
          generalize rs'[i] = r at e hx
          have hx := Option.some.inj hx
          subst hx
          obtain ⟨R, d1, d2, d3⟩ := rows2 i r e
          have d1 := sm _ _ d1
          have d2 := d2.same sm
          have fullr := d3.full asc F (show i < g.n by omega) (by omega)
          let key : V → Int × Int := fun v => match v with
            | .ref t => match HB t with
              | some (.tup [.int a, .int b]) => (a, b)
              | _ => (0, 0)
            | _ => (0, 0)
          have hk : ∀ q ∈ R, key (.ref q.1) = (q.2.1, (q.2.2 : Int)) := fun q hq => by
            show (match HB q.1 with | some (.tup [.int a, .int b]) => (a, b) | _ => (0, 0)) = _
            rw [d2 q hq]
          refine ⟨rfl, _, rfl, r, prefs R, key, rfl, SqL.of d1, fun x hx => ?_, fun ys p2 srt stb np2 => ?_⟩
          · obtain ⟨q, hq, rfl⟩ := List.mem_map.mp hx
            exact ⟨q.1, rfl, by rw [hk q hq]; exact d2 q hq⟩
          · let back : V → Addr × Int × Nat := fun v => (match v with | .ref t => t | _ => 0, (key v).1, (key v).2.toNat)
            have hb : ∀ q ∈ R, back (.ref q.1) = q := fun q hq => by
              show (q.1, (key (.ref q.1)).1, (key (.ref q.1)).2.toNat) = q
              rw [hk q hq]
              rfl
            have bk : (prefs R).map back = R := by
              unfold prefs
              rw [List.map_map]
              exact (List.map_congr_left fun q hq => hb q hq).trans (List.map_id _)
            have perm : (ys.map back).Perm R := by
              have := stb.perm.map back
              rwa [bk] at this
            have mem : ∀ v ∈ ys, ∃ q ∈ R, v = .ref q.1 := fun v hv => by
              obtain ⟨q, hq, e⟩ := List.mem_map.mp (stb.perm.mem_iff.mp hv)
              exact ⟨q, hq, e.symm⟩
            have ey : ys = prefs (ys.map back) := by
              unfold prefs
              rw [List.map_map]
              refine ((List.map_id ys).symm).trans (List.map_congr_left fun v hv => ?_)
              obtain ⟨q, hq, rfl⟩ := mem v hv
              show V.ref q.1 = V.ref (back (.ref q.1)).1
              rw [hb q hq]
            have pat : PAt HB (ys.map back) := fun q hq => d2 q (perm.mem_iff.mp hq)
            have srt2 : ((ys.map back).map (·.2)).Pairwise Sam.plt := by
              have nd2 : ((ys.map back).map (·.2)).Nodup := (perm.map (·.2)).symm.nodup d3.nd
              rw [List.map_map, List.pairwise_map]
              rw [List.map_map, List.Nodup, List.pairwise_map] at nd2
              refine (srt.and nd2).imp_of_mem fun {x y} hx hy ⟨h1, h2⟩ => ?_
              obtain ⟨q, hq, rfl⟩ := mem x hx
              obtain ⟨q', hq', rfl⟩ := mem y hy
              have h2 : (back (.ref q.1)).2 ≠ (back (.ref q'.1)).2 := h2
              show Sam.plt (back (.ref q.1)).2 (back (.ref q'.1)).2
              rw [hb q hq, hb q' hq'] at h2 ⊢
              have h3 := SrtO.lexB_no.mp h1
              rw [hk q hq, hk q' hq'] at h3
              obtain ⟨a1, a2, a3⟩ := q
              obtain ⟨b1, b2, b3⟩ := q'
              show a2 < b2 ∨ (a2 = b2 ∧ a3 < b3)
              have h2 : (a2, a3) ≠ (b2, b3) := h2
              by_cases z : a2 = b2
              · right
                have : a3 ≠ b3 := fun y => h2 (by rw [z, y])
                simp at h3
                exact ⟨z, by omega⟩
              · left
                simp at h3
                omega
            have eq2 : (ys.map back).map (·.2) = Sam.plc (hsOf L) (rep i) := Sam.plc_eq srt2 (Sam.plc_sorted asc _) fun q => by
              rw [← fullr q, (perm.map (·.2)).mem_iff]
            have s7 := same_new (o := .lst ys) np2
            refine kn_ _ _ s7 ⟨qs ++ [p2], by rw [c1, List.map_append]; rfl, by rw [List.length_append, c2]; rfl, fun r' hr => ?_, fun k r' e' => ?_⟩
            · rcases List.mem_append.mp hr with m | m
              · exact c3 r' m
              · rw [List.mem_singleton.mp m]
                exact ⟨(sb2.trans sm).free np2, fun z => by rw [z, at_] at np2; cases np2⟩
            · by_cases hki : k < qs.length
              · rw [List.getElem?_append_left hki] at e'
                obtain ⟨R', f1, f2, f3⟩ := c4 k r' e'
                exact ⟨R', s7 _ _ f1, f2.same s7, f3⟩
              · rw [List.getElem?_append_right (by omega)] at e'
                have z := (List.getElem?_eq_some_iff.mp e').1
                have z1 : k - qs.length < 1 := z
                have z2 : k = i := by omega
                have z3 : k - qs.length = 0 := by omega
                rw [z3] at e'
                have : p2 = r' := Option.some.inj e'
                subst this
                exact ⟨ys.map back, by rw [upd_same, ← ey], pat.same s7, by rw [eq2, z2]⟩
        · obtain ⟨qs, c1, c2, c3, c4⟩ := rD
          rw [List.length_map, ln2] at c2
          rw [c1] at atD
          exact q HA D qs (sb2.trans smA) (sb2.free nD) atD c2 (fun r m => (c3 r m).1) c4
end

end SH
set_option Elab.async false
set_option linter.all false
set_option maxRecDepth 100000
set_option maxHeartbeats 4000000
namespace SH
open PySem PySem.Spec PyProof.Rows L2
theorem valV_merge_out {k : Key} : ∀ (more acc : List (Key × V)), k ∉ more.map (·.1) → valV (mergeK acc more) k = valV acc k
  | [], _, _ => rfl
  | x :: r, acc, h => by
    rw [List.map_cons, List.mem_cons] at h
    show valV (mergeK (putK acc x.1 x.2) r) k = _
    rw [valV_merge_out r _ (fun z => h (.inr z)), valV_put, if_neg (fun z => h (.inl z))]
theorem valV_merge_in {k : Key} {v : V} : ∀ (more acc : List (Key × V)), (more.map (·.1)).Nodup → (k, v) ∈ more → valV (mergeK acc more) k = some v
  | x :: r, acc, nd, h => by
    rw [List.map_cons, List.nodup_cons] at nd
    show valV (mergeK (putK acc x.1 x.2) r) k = _
    rcases List.mem_cons.mp h with e | m
    · rw [← e] at nd ⊢
      rw [valV_merge_out r _ nd.1, valV_put, if_pos rfl]
    · exact valV_merge_in r _ nd.2 m
theorem take_drop_cut {z : Str} {a b : Nat} (h1 : a ≤ b) (h2 : b ≤ z.length) : TL.tl (cutS z (some (a : Int)) (some (b : Int))) = ((TL.tl z).take b).drop a := by
  show (z.cps.toList.drop (HT.sIx z.length 0 (some (a : Int)))).take (HT.sIx z.length z.length (some (b : Int)) - HT.sIx z.length 0 (some (a : Int))) = _
  rw [HT.sIx_nat, HT.sIx_nat, Nat.min_eq_left h2, Nat.min_eq_left (Nat.le_trans h1 h2), List.drop_take]
theorem paired_house {K : PySem.W.Frag} {H : Hp} : ∀ {L : PL}, PairsAt K H L → Paired (fun p (kv : Key × V) => SqT K H p [kV kv.1, kv.2]) (L.map (·.1)) (L.map fun q => ((Sum.inl q.2.1 : Key), V.str q.2.2))
  | [], _ => .nil
  | q :: r, h => .cons (h q (List.mem_cons_self ..)) (paired_house fun x m => h x (List.mem_cons_of_mem _ m))
section
variable {P : Program} {w : World} {K : PySem.W.Frag} {mg : Str → Option Value} {base : Heap} {ea : Ea}
theorem Grown.keep {C : Addr} {H0 H H' : Hp} {p : Addr} {L : PL} {g : Sam.G} {rep : Nat → Sam.Wd} {a : Ad} {T : WT} (h : Grown C H0 H p L g rep a T) (s : Same H H') : Grown C H0 H' p L g rep a T := ⟨h.fin, h.at_.keep s, h.wa.same s, h.ok, h.n, h.len⟩
/-- the states but the last one -/
structure StAt (H H' : Hp) (l : Addr) (L : PL) (g : Sam.G) (rep : Nat → Sam.Wd) (ts rs : List Addr) : Prop where
  sm : Same H H'
  fin : Sam.Fin (Sam.txs (hsOf L)) g rep
  nl : H l = none
  at_ : H' l = some (.lst (ts.map V.ref))
  lt : ts.length = g.n
  lr : rs.length = g.n
  row : ∀ k t r, ts[k]? = some t → rs[k]? = some r → H' t = some (.tup [.str (SX.S (Sam.mw g rep k)), .str (SX.S (rep k)), .ref r, optN (g.lk k)]) ∧ ∃ R : PT, H' r = some (.lst (prefs R)) ∧ PAt H' R ∧ R.map (·.2) = Sam.plc (hsOf L) (rep k)
  nr : ∀ r ∈ rs, H r = none
  nt : ∀ t ∈ ts, H t = none
def spStates (K : PySem.W.Frag) : Sp := fun vs H Q _ => ∃ (h : Addr) (L : PL), vs = [.ref h] ∧ HsAt K H h L ∧ HouseOk L ∧
  (L = [] → ∀ H' l t r, Same H H' → H' l = some (.lst [.ref t]) → H' t = some (.tup [.str "", .str "", .ref r, .non]) → H' r = some (.lst []) → Q (.ref l) H') ∧
  (L ≠ [] → ∀ H' l g rep ts rs, StAt H H' l L g rep ts rs → Q (.ref l) H')
theorem sc_states : FnScope ["house", "growth", "texts", "found", "state", "pairs", "number", "stop", "shortest", "longest"] ["house"] (defScope s_states) := ⟨rfl, rfl, rfl, by decide +kernel, rfl, by decide +kernel, by decide +kernel⟩
theorem ok_states (T : Txt K mg ea) (c_Growth : C8.Mak P w K mg base 5 "Growth" ea.c_Growth (spInitG K ea.c_Growth) []) (c_Growth_pairs : C8.Met P w K mg base 1 ea.c_Growth "pairs" (spPairs ea.c_Growth) []) (c_Growth_least_size : C8.Met P w K mg base 1 ea.c_Growth "least_size" (spLeast ea.c_Growth) []) : Cl P w K mg base 7 "states" (spStates K) := by
  have nd := sc_states.nd
  refine cl_of T.d_states sc_states (fun vs H Q E h => ?_) (fun f cdv A outer s0 H vs Q E hr h => ?_)
  · obtain ⟨hh, L, rfl, _⟩ := h
    rfl
  · obtain ⟨hh, L, rfl, hA, ok, q1, q2⟩ := h
    refine ⟨_, (pss_cons (ps_if (pt_cmpR op_eq (pe_callB call_len_seq (by rfl) T.b_len PySem.boot_len (pa_cons (pv 0) pa_nil)) pe_int (nomark _))
        (pss_one (ps_ret (pe_lst (pa_cons (pe_tup (pa_cons pe_str (pa_cons pe_str (pa_cons (pe_lst pa_nil) (pa_cons pe_non pa_nil))))) pa_nil))))
        pss_nil)
      (pss_cons (ps_set (i := 1) nd rfl (.inl rfl) (C8.pe_mk c_Growth hr (by decide) (by rfl) (pa_cons (pv 0) pa_nil)))
      (pss_cons (ps_set (i := 2) nd rfl (.inl rfl) (pe_callTy (call_dictP rfl) (by rfl) T.b_dict (by decide +kernel) (pa_cons (pv 0) pa_nil)))
      (pss_cons (ps_set (i := 3) nd rfl (.inl rfl) (pe_lst pa_nil))
      (pss_cons (ps_for PassesOwn.never rfl (pi_enum (by rfl) T.b_enumerate (pa_cons (C8.pe_mt0 c_Growth_pairs hr (by decide) (pv 1)) pa_nil)) (pg_tup rfl (pgs_cons (pg_name (i := 4) nd rfl (.inl rfl)) (pgs_cons (pg_name (i := 5) nd rfl (.inl rfl)) pgs_nil)))
        (pss_cons (ps_asg (pe_ix (ixl (K := K)) (pv 5) pe_int (fun _ _ => rfl)) (pg_tup rfl (pgs_cons (pg_name (i := 6) nd rfl (.inl rfl)) (pgs_cons (pg_name (i := 7) nd rfl (.inl rfl)) pgs_nil))))
          (pss_cons (ps_set (i := 8) nd rfl (.inl rfl) (pe_slice sl_str (pe_dget (hu_of hr) (pv 2) (pv 6) (fun _ _ => rfl)) (po_some (pe_op op_sub (pv 7) (C8.pe_mt c_Growth_least_size hr (by decide) (pv 1) (pa_cons (pv 4) pa_nil)))) (po_some (pv 7))))
          (pss_cons (ps_set (i := 9) nd rfl (.inl rfl) (pe_slice sl_str (pe_dget (hu_of hr) (pv 2) (pv 6) (fun _ _ => rfl)) (po_some (pe_op op_sub (pv 7) (pe_ix (ixl (K := K)) (pe_fldK (K := K) (pv 1) rfl) (pv 4) (fun _ _ => rfl)))) (po_some (pv 7))))
          (pss_one (ps_expr (pe_bm PySem.F.plainAttrs_list PySem.F.slot_list_append PySem.F.type_list_append mt_append (pv 3) (pa_cons (pe_tup (pa_cons (pv 8) (pa_cons (pv 9) (pa_cons (pv 5) (pa_cons (pe_ix (ixl (K := K)) (pe_fldK (K := K) (pv 1) rfl) (pv 4) (fun _ _ => rfl)) pa_nil))))) pa_nil))))))))
      (pss_one (ps_ret (pv 3)))))))), ?_⟩
    have rl : (refs L).length = L.length := List.length_map ..
    refine ⟨_, rfl, hh, _, rfl, .inl hA.1, rfl, _, rfl, ite2 (fun e => ?_) (fun e => ?_)⟩
    · have hl0 : L = [] := by
        have := V.int.inj (of_decide_eq_true e)
        rw [rl] at this
        exact List.eq_nil_of_length_eq_zero (by omega)
      refine ⟨Nat.zero_le _, fun r nr => ⟨(by show 4 ≤ sizeLine; decide), fun t nt => ⟨(by show 1 ≤ sizeLine; decide), fun l nl => ?_⟩⟩⟩
      have s1 := same_new (o := .lst []) nr
      have s2 := same_new (o := .tup [.str "", .str "", .ref r, .non]) nt
      have s3 := same_new (o := .lst [.ref t]) nl
      exact q1 hl0 _ l t r ((s1.trans s2).trans s3) upd_same (s3 _ _ upd_same) (s3 _ _ (s2 _ _ upd_same))
    have hl0 : L ≠ [] := fun z => e (decide_eq_true (by rw [z]; rfl))
    -- the classes
    refine ⟨_, rfl, fun x dx nx ndx nex => ?_⟩
    have s0' : Same H (upd (upd H dx (.own x)) x (.ins ea.c_Growth dx [])) := (same_new ndx).trans (same_new (by rw [upd_ne nex.symm]; exact nx))
    refine ⟨H, x, hh, dx, L, rfl, s0', nx, upd_same, hA, ok, fun H1 g rep a T1 Gr => ⟨rfl, ?_⟩⟩
    have G := Gr.at_
    have F := Gr.fin
    have I := F.inv
    have O := okg_of I fun i hi => Nat.le_trans (Gr.len i hi) (by decide)
    have gn := Gr.n
    have sH1 := G.sm
    -- the texts by their numbers
    have eps : refs L = (L.map (·.1)).map V.ref := by rw [List.map_map]; rfl
    have hA1 := hA.same sH1
    refine ⟨_, rfl, hh, L.map (fun q : Addr × Int × Str => q.1), L.map fun q : Addr × Int × Str => ((Sum.inl q.2.1 : Key), V.str q.2.2), rfl, by rw [← eps]; exact hA1.1, paired_house hA1.2, fun dT ndT => ?_⟩
    have s2 := same_new (o := .dK (mergeK [] (L.map fun q => ((Sum.inl q.2.1 : Key), V.str q.2.2)))) ndT
    have hdT : (upd H1 dT (.dK (mergeK [] (L.map fun q => ((Sum.inl q.2.1 : Key), V.str q.2.2))))) dT = some (.dK (mergeK [] (L.map fun q => ((Sum.inl q.2.1 : Key), V.str q.2.2)))) := upd_same
    have tget : ∀ q ∈ L, valV (mergeK [] (L.map fun q => ((Sum.inl q.2.1 : Key), V.str q.2.2))) (.inl q.2.1) = some (.str q.2.2) := fun q hq => by
      refine valV_merge_in _ _ ?_ (List.mem_map.mpr ⟨q, hq, rfl⟩)
      rw [List.map_map]
      have := ok.asc
      rw [List.pairwise_map] at this
      rw [List.Nodup, List.pairwise_map]
      exact this.imp fun h e => by have := Sum.inl.inj e; omega
    refine ⟨Nat.zero_le _, fun F1 nF => ?_⟩
    have s3 := s2.trans (same_new (o := .lst []) nF)
    have LF : a.L ≠ F1 := ne_of_none (s2 _ _ G.hL) nF
    have SF : a.S ≠ F1 := ne_of_none (s2 _ _ G.hS) nF
    have hdT3 : (upd (upd H1 dT (.dK (mergeK [] (L.map fun q => ((Sum.inl q.2.1 : Key), V.str q.2.2))))) F1 (.lst [])) dT = some (.dK (mergeK [] (L.map fun q => ((Sum.inl q.2.1 : Key), V.str q.2.2)))) := same_new nF _ _ hdT
    have hF3 : (upd (upd H1 dT (.dK (mergeK [] (L.map fun q => ((Sum.inl q.2.1 : Key), V.str q.2.2))))) F1 (.lst [])) F1 = some (.lst []) := upd_same
    generalize hkv : mergeK [] (L.map fun q => ((Sum.inl q.2.1 : Key), V.str q.2.2)) = kvT at hdT3 hF3 tget s3 nF ⊢
    have nF0 : H F1 = none := (sH1.trans s2).free (by rw [hkv]; exact nF)
    generalize upd (upd H1 dT (.dK kvT)) F1 (.lst []) = H3 at s3 hdT3 hF3 ⊢
    have Gr3 := Gr.keep s3
    have G3 := Gr3.at_
    -- the places
    refine ⟨_, rfl, x, _, _, rfl, G3.hp, rfl, H, x, L, g, rep, a, T1, rfl, Gr3, ok, fun H4 lp rs s4 nlp atp lrs frs rows => ?_⟩
    have Gr4 := Gr3.keep s4
    have G4 := Gr4.at_
    have sH4 : Same H H4 := (sH1.trans s3).trans s4
    have nlp0 := (sH1.trans s3).free nlp
    refine ⟨lp, _, rfl, SqL.of atp, ?_⟩
    have ne : hsOf L ≠ [] := fun z => hl0 (List.map_eq_nil_iff.mp z)
    have rI : ∀ {k : Nat}, k < g.n → ∃ r, rs[k]? = some r ∧ r ∈ rs ∧ (rs.map V.ref)[k]? = some (.ref r) := fun {k} hk => by
      have h1 : k < rs.length := by omega
      have e : rs[k]? = some rs[k] := List.getElem?_eq_getElem h1
      exact ⟨_, e, List.getElem_mem h1, by rw [List.getElem?_map, e]; rfl⟩
    have frH : ∀ r ∈ rs, H r = none := fun r m => (sH1.trans s3).free (frs r m)
    refine for_it (walk_enum (K := K) (a := lp) (xs := rs.map V.ref)) (fun i σ H' => ∃ (ts : List Addr) (y4 y5 y6 y7 y8 y9 : Option V), σ = [some (.ref hh), some (.ref x), some (.ref dT), some (.ref F1), y4, y5, y6, y7, y8, y9] ∧ (∀ b o, b ≠ F1 → H4 b = some o → H' b = some o) ∧ Same H H' ∧ H' F1 = some (.lst (ts.map V.ref)) ∧ ts.length = i ∧ (∀ t ∈ ts, H t = none) ∧
      ∀ k t r, ts[k]? = some t → rs[k]? = some r → H' t = some (.tup [.str (SX.S (Sam.mw g rep k)), .str (SX.S (rep k)), .ref r, optN (g.lk k)]))
      ⟨[], none, none, none, none, none, none, rfl, fun b o _ h => h, sH4, s4 _ _ hF3, rfl, (fun t m => nomatch m), fun k t r e => by simp at e⟩ (fun i σ H' _ hW => ?_) (fun i y σ HA HB hi hW hy => ?_) (fun σ H' hW => ?_)
    · obtain ⟨ts, y4, y5, y6, y7, y8, y9, rfl, bF, _⟩ := hW
      exact SqL.of (bF _ _ (fun z => by rw [z, hF3] at nlp; cases nlp) atp)
    · obtain ⟨ts, y4, y5, y6, y7, y8, y9, rfl, bF, sH, atF, tl1, tfr, tok⟩ := hW
      obtain ⟨tt, x1, x2, rfl, nt, rfl, e1, e2⟩ := hy
      cases e1
      rw [List.length_map] at hi
      have ign : i < g.n := by omega
      obtain ⟨r, re, rm, re2⟩ := rI ign
      have e2 : (rs.map V.ref)[i]? = some x2 := e2
      rw [re2] at e2
      cases e2
      obtain ⟨R, d1, d2, d3⟩ := rows i r re
      have s5 := same_new (o := .tup [.int (i : Int), .ref r]) nt
      have hF4 := s4 _ _ hF3
      have rF : r ≠ F1 := fun z => by have := frs r rm; rw [z, hF3] at this; cases this
      have d1' := s5 _ _ (bF _ _ rF d1)
      -- its first place
      obtain ⟨q0, R', eR⟩ : ∃ q0 R', R = q0 :: R' := by
        cases R with
        | cons a b => exact ⟨a, b, rfl⟩
        | nil =>
          obtain ⟨q, hq⟩ := (Sam.inner_plc ne).mp (I.mem ign).inner
          rw [← d3] at hq
          cases hq
      have q0R : q0 ∈ R := by rw [eR]; exact List.mem_cons_self ..
      have hq0 := d2 q0 q0R
      have hq0' := s5 _ _ (bF _ _ (fun z => by rw [z, hF4] at hq0; cases hq0) hq0)
      have mq : (q0.2.1, q0.2.2) ∈ Sam.plc (hsOf L) (rep i) := by rw [← d3]; exact List.mem_map.mpr ⟨q0, q0R, rfl⟩
      obtain ⟨t, ht, hst, suf⟩ := Sam.mem_plc.mp mq
      obtain ⟨tx, txL, etx⟩ := List.mem_map.mp ht
      have en : tx.2.1 = q0.2.1 := congrArg Prod.fst etx
      have ett : TL.tl tx.2.2 = t := congrArg Prod.snd etx
      have txl := (ok.txt tx txL).2
      have tlen : tx.2.2.length = t.length := by rw [TL.len_tl, ett]
      have tg := tget tx txL
      rw [en] at tg
      have hdT5 : (upd HA tt (.tup [.int (i : Int), .ref r])) dT = some (.dK kvT) := s5 _ _ (bF _ _ (fun z => by rw [z, hF3] at hdT3; cases hdT3) (s4 _ _ hdT3))
      have dg : ∀ {Hx : Hp}, Same (upd HA tt (.tup [.int (i : Int), .ref r])) Hx → DGet Hx dT (.int q0.2.1) (some (.str tx.2.2)) := fun {Hx} e => by
        have := DGet.k (k := .inl q0.2.1) (e _ _ hdT5)
        rw [tg] at this
        exact this
      have a0 : atI (prefs R) 0 = some (.ref q0.1) := by rw [eR]; exact atI_nat (j := 0) rfl
      have mwl := I.mw_len ign
      have lle := I.least_le ign
      have sle : (rep i).length ≤ q0.2.2 := by
        have := suf.length_le
        rw [List.length_take] at this
        omega
      have szi := I.sz i ign
      -- the object as it stands
      have xF : x ≠ F1 := fun z => by have h := G4.hp; rw [z, hF4] at h; cases h
      have lF : ∀ {b : Addr} {xs : List V}, H4 b = some (.lst xs) → b ≠ F1 → (upd HA tt (.tup [.int (i : Int), .ref r])) b = some (.lst xs) := fun h n => s5 _ _ (bF _ _ n h)
      refine ⟨_, _, rfl, .inl (.inl upd_same), rfl, _, _, rfl, _, _, rfl, rfl, ?_⟩
      refine ⟨_, rfl, r, _, _, _, rfl, rfl, SqL.of d1', a0, _, _, rfl, .inl (.inl hq0'), rfl, _, _, rfl, _, _, rfl, rfl, ?_⟩
      have hp5 := s5 _ _ (bF _ _ xF G4.hp)
      have hL5 := lF G4.hL LF
      have hS5 := lF G4.hS SF
      have cut : ∀ {n : Nat}, n ≤ q0.2.2 → TL.tl (cutS tx.2.2 (some ((q0.2.2 : Int) - (n : Int))) (some (q0.2.2 : Int))) = (t.take q0.2.2).drop (q0.2.2 - n) := fun {n} hn => by
        rw [show (q0.2.2 : Int) - (n : Int) = ((q0.2.2 - n : Nat) : Int) by omega, take_drop_cut (by omega) (by omega), ett]
      have tkl : (t.take q0.2.2).length = q0.2.2 := by rw [List.length_take]; omega
      have c1 : cutS tx.2.2 (some ((q0.2.2 : Int) - (Sam.leastSz g i : Int))) (some (q0.2.2 : Int)) = SX.S (Sam.mw g rep i) := by
        refine TL.ext_tl ?_
        rw [cut (by omega)]
        show _ = Sam.mw g rep i
        have h1 : (t.take q0.2.2).drop (q0.2.2 - Sam.leastSz g i) <:+ t.take q0.2.2 := List.drop_suffix _ _
        have h2 : Sam.mw g rep i <:+ t.take q0.2.2 := List.IsSuffix.trans (List.drop_suffix _ _) suf
        have hl : ((t.take q0.2.2).drop (q0.2.2 - Sam.leastSz g i)).length = (Sam.mw g rep i).length := by rw [List.length_drop, tkl, mwl]; omega
        exact (Sam.suf_of h1 h2 (by omega)).eq_of_length hl
      have c2 : cutS tx.2.2 (some ((q0.2.2 : Int) - (g.sz i : Int))) (some (q0.2.2 : Int)) = SX.S (rep i) := by
        refine TL.ext_tl ?_
        rw [cut (by omega)]
        show _ = rep i
        have h1 : (t.take q0.2.2).drop (q0.2.2 - g.sz i) <:+ t.take q0.2.2 := List.drop_suffix _ _
        have hl : ((t.take q0.2.2).drop (q0.2.2 - g.sz i)).length = (rep i).length := by rw [List.length_drop, tkl]; omega
        exact (Sam.suf_of h1 suf (by omega)).eq_of_length hl
      have txs : tx.2.2.length ≤ sizeLine := Nat.le_trans txl (by decide)
      -- shortest, longest
      refine ⟨_, rfl, _, rfl, dT, _, rfl, dg (Same.refl _), _, rfl, _, rfl, x, _, _, rfl, hp5, rfl, _, rfl, x, g, a, i, rfl, hp5, hL5, hS5, O, ign, fun H6 s6 => ⟨_, _, rfl, rfl, _, rfl, _, rfl, _, rfl, tx.2.2, rfl, txs, ?_⟩⟩
      rw [c1]
      refine ⟨_, rfl, _, rfl, dT, _, rfl, dg s6, _, rfl, _, rfl, x, _, _, _, _, rfl, s6 _ _ hp5, T.l_Growth, T.n_Growth_sizes, fl_sizes a, _, rfl, a.S, _, _, _, rfl, rfl, SqL.of (s6 _ _ hS5), sizes_at ign, _, _, rfl, rfl, _, rfl, _, rfl, _, rfl, tx.2.2, rfl, txs, ?_⟩
      rw [c2]
      -- the tuple
      have atF6 := s6 _ _ (s5 _ _ atF)
      refine ⟨_, rfl, .inl ⟨rfl, _, SqL.of atF6⟩, _, rfl, _, rfl, _, rfl, _, rfl, x, _, _, _, _, rfl, s6 _ _ hp5, T.l_Growth, T.n_Growth_links, fl_links a, _, rfl, a.L, _, _, _, rfl, rfl, SqL.of (s6 _ _ hL5), links_at ign, (by show 4 ≤ sizeLine; decide), fun t9 nt9 => ?_⟩
      have s9 := s6.trans (same_new (o := .tup [.str (SX.S (Sam.mw g rep i)), .str (SX.S (rep i)), .ref r, optN (g.lk i)]) nt9)
      have s59 := s5.trans s9
      have t9F : t9 ≠ F1 := fun z => by rw [z, atF6] at nt9; cases nt9
      refine ⟨F1, _, _, rfl, rfl, s59 _ _ atF, sz1000 (by rw [List.length_map]; omega), ?_⟩
      have e9 : ts.map V.ref ++ [V.ref t9] = (ts ++ [t9]).map V.ref := by rw [List.map_append]; rfl
      rw [e9]
      refine ⟨ts ++ [t9], _, _, _, _, _, _, rfl, fun b o n e => by rw [upd_ne n]; exact s59 _ _ (bF b o n e), same_mut (sH.trans s59) nF0, upd_same, by rw [List.length_append, tl1]; rfl, fun t' m => ?_, fun k t' r' g1 g2 => ?_⟩
      · rcases List.mem_append.mp m with m | m
        · exact tfr t' m
        · rw [List.mem_singleton.mp m]
          exact (sH.trans (s5.trans s6)).free nt9
      · by_cases hk : k < ts.length
        · rw [List.getElem?_append_left hk] at g1
          have h := tok k t' r' g1 g2
          rw [upd_ne (fun z => by rw [z, atF] at h; cases h)]
          exact s59 _ _ h
        · rw [List.getElem?_append_right (by omega)] at g1
          have z := (List.getElem?_eq_some_iff.mp g1).1
          have z1 : k - ts.length < 1 := z
          have z2 : k = i := by omega
          have z3 : k - ts.length = 0 := by omega
          rw [z3] at g1
          have : t9 = t' := Option.some.inj g1
          subst this
          subst z2
          rw [re] at g2
          cases g2
          rw [upd_ne t9F]
          exact upd_same
    · obtain ⟨ts, y4, y5, y6, y7, y8, y9, rfl, bF, sH, atF, tl1, tfr, tok⟩ := hW
      rw [List.length_map, lrs] at tl1
      have hF4 := s4 _ _ hF3
      refine ⟨_, rfl, q2 hl0 H' F1 g rep ts rs ⟨sH, F, nF0, atF, tl1, lrs, fun k t r e1 e2 => ⟨tok k t r e1 e2, ?_⟩, frH, tfr⟩⟩
      obtain ⟨R, d1, d2, d3⟩ := rows k r e2
      have rF : r ≠ F1 := fun z => by have := frs r (List.mem_of_getElem? e2); rw [z, hF3] at this; cases this
      exact ⟨R, bF _ _ rF d1, fun q hq => bF _ _ (fun z => by have := d2 q hq; rw [z, hF4] at this; cases this) (d2 q hq), d3⟩
end

end SH
set_option Elab.async false
set_option linter.all false
set_option maxRecDepth 100000
set_option maxHeartbeats 4000000
/-! lines of a house's text -/
namespace SH
open PySem PySem.Spec PyProof.Rows L2 TL
def dg (c : Nat) : Bool := decide (48 ≤ c) && decide (c ≤ 57)
/-- the number that a numeral of one or two signs gives -/
def numIn (a : List Nat) : Option Nat := match a with
  | [c] => if dg c = true then some (c - 48) else none
  | [c, d] => if (dg c && dg d && !(c == 48)) = true then some ((c - 48) * 10 + (d - 48)) else none
  | _ => none
inductive Ft where
  | line | text | order | many
/-- what stands before and behind the first colon -/
def col (z : Str) : Option (Str × Str) := if Txt.find z ":" = -1 then none else some ((Txt.partition z ":").1, (Txt.partition z ":").2.2)
theorem col_cases (z : Str) : (col z = none ∧ Txt.partition z ":" = (z, Str.empty, Str.empty) ∧ Txt.find z ":" = -1) ∨
    ∃ (i : Nat) (a b : Str), col z = some (a, b) ∧ Txt.partition z ":" = (a, (":" : Str), b) ∧ Txt.find z ":" = (i : Int) ∧ tl a = (tl z).take i ∧ tl b = (tl z).drop (i + 1) ∧ i + 1 ≤ z.length := by
  rcases StrLaws.occ_head z ":" 1 (Nat.le_refl 1) with ⟨h0, hn⟩ | ⟨i, r, h0, hi, hn⟩
  · left
    have f : Txt.find z ":" = -1 := by unfold Txt.find; rw [h0]
    refine ⟨by unfold col; rw [if_pos f], ?_, f⟩
    unfold Txt.partition
    rw [h0]
  · right
    have f : Txt.find z ":" = (i : Int) := by unfold Txt.find; rw [h0]
    have p : Txt.partition z ":" = (Builtin.Str.strSub z 0 i, (":" : Str), Builtin.Str.strSub z (i + (":" : Str).length) z.length) := by
      unfold Txt.partition
      rw [h0]
    refine ⟨i, Builtin.Str.strSub z 0 i, Builtin.Str.strSub z (i + 1) z.length, ?_, p, f, ?_, ?_, hi.1⟩
    · unfold col
      rw [if_neg (by rw [f]; omega), p]
      rfl
    · rw [tl_strSub, List.drop_zero, Nat.sub_zero]
    · rw [tl_strSub_end]
/-- a line: its pair, or its first fault -/
def lineR (z : Str) : Sum (Nat × Str) Ft := match col z with
  | none => .inr .line
  | some (a, b) => match numIn (tl a) with
    | none => .inr .line
    | some n => if 40 < b.length then .inr .text else .inl (n, b)
/-- the lines from the k-th on, behind the number b -/
def rdH (rest : Str) : Nat → Int → List Str → Sum (List (Int × Str)) (Ft × Nat)
  | k, _, [] => if rest = "" then .inl [] else .inr (.line, k)
  | k, b, z :: r => match lineR z with
    | .inr t => .inr (t, k)
    | .inl (n, x) => if (n : Int) ≤ b then .inr (.order, k) else if 8 ≤ k then .inr (.many, k) else match rdH rest (k + 1) n r with
      | .inl h => .inl ((n, x) :: h)
      | .inr e => .inr e
/-- with the pairs that have been read -/
def ahead (h : List (Int × Str)) : Sum (List (Int × Str)) (Ft × Nat) → Sum (List (Int × Str)) (Ft × Nat)
  | .inl t => .inl (h ++ t)
  | .inr e => .inr e
theorem rdH_step {rest z x : Str} {k n : Nat} {b : Int} {r : List Str} {h : List (Int × Str)} (hl : lineR z = .inl (n, x)) (h1 : ¬ (n : Int) ≤ b) (h2 : ¬ 8 ≤ k) :
    ahead h (rdH rest k b (z :: r)) = ahead (h ++ [((n : Int), x)]) (rdH rest (k + 1) n r) := by
  rw [rdH, hl]
  show ahead h (if (n : Int) ≤ b then _ else if 8 ≤ k then _ else _) = _
  rw [if_neg h1, if_neg h2]
  cases rdH rest (k + 1) n r with
  | inl t => show Sum.inl (h ++ ((n : Int), x) :: t) = Sum.inl (h ++ [((n : Int), x)] ++ t); rw [List.append_assoc]; rfl
  | inr e => rfl
/-- a text -/
def rdT (z : Str) : Sum (List (Int × Str)) (Ft × Nat) := rdH ((Txt.split z "\n").getLastD "") 0 (-1) (Txt.split z "\n").dropLast
/-! numerals -/
theorem digit_ascii : ∀ c : Nat, c < 128 → Unicode.isDigit c = dg c := by decide +kernel
theorem numIn_one {c n : Nat} : numIn [c] = some n ↔ dg c = true ∧ n = c - 48 := by
  show (if dg c = true then some (c - 48) else none) = some n ↔ _
  by_cases h : dg c = true
  · rw [if_pos h]
    exact ⟨fun e => ⟨h, (Option.some.inj e).symm⟩, fun e => by rw [e.2]⟩
  · rw [if_neg h]
    exact ⟨(fun e => by cases e), (fun e => absurd e.1 h)⟩
theorem numIn_two {c d n : Nat} : numIn [c, d] = some n ↔ dg c = true ∧ dg d = true ∧ c ≠ 48 ∧ n = (c - 48) * 10 + (d - 48) := by
  show (if (dg c && dg d && !(c == 48)) = true then some ((c - 48) * 10 + (d - 48)) else none) = some n ↔ _
  by_cases h : (dg c && dg d && !(c == 48)) = true
  · rw [if_pos h]
    simp at h
    exact ⟨fun e => ⟨h.1.1, h.1.2, h.2, (Option.some.inj e).symm⟩, fun e => by rw [e.2.2.2]⟩
  · rw [if_neg h]
    refine ⟨(fun e => by cases e), (fun e => absurd ?_ h)⟩
    simp [e.1, e.2.1, e.2.2.1]
theorem dg_iff {c : Nat} : dg c = true ↔ 48 ≤ c ∧ c ≤ 57 := by
  unfold dg
  simp
theorem numIn_le {a : List Nat} {n : Nat} (h : numIn a = some n) : n ≤ 99 := by
  match a, h with
  | [c], h =>
    obtain ⟨h1, h2⟩ := numIn_one.mp h
    have := dg_iff.mp h1
    omega
  | [c, d], h =>
    obtain ⟨h1, h2, h3, h4⟩ := numIn_two.mp h
    have := dg_iff.mp h1
    have := dg_iff.mp h2
    omega
  | [], h => cases h
  | _ :: _ :: _ :: _, h => cases h
theorem numIn_len {a : List Nat} {n : Nat} (h : numIn a = some n) : a.length = 1 ∨ a.length = 2 := by
  match a, h with
  | [_], _ => exact .inl rfl
  | [_, _], _ => exact .inr rfl
  | [], h => cases h
  | _ :: _ :: _ :: _, h => cases h
theorem log_small {n : Nat} (h : n ≤ 1000) : ((n : Nat) : Int).natAbs.log2 < 1920 := by
  rw [Int.natAbs_natCast]
  exact Nat.lt_of_le_of_lt (Nat.le_trans (Nat.log2_le_self n) h) (by decide)
/-! texts whose signs are signs -/
def OkS (z : Str) : Prop := ∀ c ∈ tl z, c < 1114112
theorem OkS.ok {z : Str} (h : OkS z) : PyData.strOk z = true := by
  unfold PyData.strOk
  rw [← Array.all_toList]
  exact List.all_eq_true.mpr fun c hc => decide_eq_true (h c hc)
theorem OkS.app {a b : Str} (ha : OkS a) (hb : OkS b) : OkS (a ++ b) := fun c hc => by
  rw [tl_append] at hc
  exact (List.mem_append.mp hc).elim (ha c) (hb c)
theorem OkS.cut {z : Str} (h : OkS z) (lo hi : Option Int) : OkS (cutS z lo hi) := fun c hc => h c (List.mem_of_mem_drop (List.mem_of_mem_take (show c ∈ (z.cps.toList.drop _).take _ from hc)))
theorem ok_let {z : Str} (h : IsLet z) : OkS z := fun c hc => by
  have := okc_lt (List.all_eq_true.mp h c hc)
  omega
theorem ok_part {z x a b : Str} (h : OkS z) {i : Nat} (ha : tl a = (tl z).take i) (hb : tl b = (tl z).drop (i + 1)) : OkS a ∧ OkS b :=
  ⟨fun c hc => h c (List.mem_of_mem_take (by rw [← ha]; exact hc)), fun c hc => h c (List.mem_of_mem_drop (by rw [← hb]; exact hc))⟩
/-- signs and separators of a list of texts -/
def tot (ys : List Str) : Nat := (ys.map (·.length)).sum + ys.length
theorem tot_app (a b : List Str) : tot (a ++ b) = tot a + tot b := by
  unfold tot
  rw [List.map_append, List.sum_append, List.length_append]
  omega
theorem tot_take_drop (a : List Str) (i : Nat) : tot (a.take i) + tot (a.drop i) = tot a := by
  rw [← tot_app, List.take_append_drop]
theorem tot_one (x : Str) : tot [x] = x.length + 1 := by
  unfold tot
  simp
theorem joinL_tot : ∀ l : List (List Nat), (joinL [10] l).length ≤ (l.map List.length).sum + l.length
  | [] => Nat.le_refl _
  | [p] => by simp [joinL]
  | p :: q :: r => by
    have ih := joinL_tot (q :: r)
    show (p ++ ([10] ++ joinL [10] (q :: r))).length ≤ _
    rw [List.length_append, List.length_append, List.map_cons, List.sum_cons, List.length_cons (a := p)]
    simp only [List.length_cons, List.length_nil] at ih ⊢
    omega
theorem join_tot (ys : List Str) : (Txt.join "\n" ys).length ≤ tot ys := by
  have e : tl (Txt.join "\n" ys) = joinL [10] (ys.map tl) := by
    rw [join_eq, tl_join]
    rfl
  have b := joinL_tot (ys.map tl)
  rw [← e, List.map_map, List.length_map] at b
  have c : ((List.length ∘ tl) : Str → Nat) = fun x => x.length := funext fun x => (len_tl x).symm
  rw [c] at b
  rw [len_tl]
  exact b
theorem joinL_mem2 {S : List Nat} {c : Nat} : ∀ {l : List (List Nat)}, c ∈ joinL S l → c ∈ S ∨ ∃ p ∈ l, c ∈ p
  | [], h => by cases h
  | [p], h => .inr ⟨p, List.mem_singleton.mpr rfl, h⟩
  | p :: q :: r, h => by
    have h' : c ∈ p ++ (S ++ joinL S (q :: r)) := h
    rcases List.mem_append.mp h' with m | m
    · exact .inr ⟨p, List.mem_cons_self .., m⟩
    · rcases List.mem_append.mp m with m | m
      · exact .inl m
      · rcases joinL_mem2 m with m | ⟨x, hx, m⟩
        · exact .inl m
        · exact .inr ⟨x, List.mem_cons_of_mem _ hx, m⟩
theorem ok_join {y : Str} (hy : OkS y) {ys : List Str} (h : ∀ x ∈ ys, OkS x) : OkS (Txt.join y ys) := fun c hc => by
  rw [join_eq, tl_join] at hc
  rcases joinL_mem2 hc with m | ⟨p, hp, m⟩
  · exact hy c m
  · obtain ⟨x, hx, rfl⟩ := List.mem_map.mp hp
    exact h x hx c m
theorem split_more (z : Str) : Txt.split z "\n" ≠ [] ∧ tot (Txt.split z "\n") = z.length + 1 ∧ (OkS z → ∀ x ∈ Txt.split z "\n", OkS x) := by
  have key : ∀ (l acc : List Nat), spl [10] 0 acc l ≠ [] ∧ ((spl [10] 0 acc l).map List.length).sum + (spl [10] 0 acc l).length = acc.length + l.length + 1 ∧ ∀ x ∈ spl [10] 0 acc l, ∀ c ∈ x, c ∈ acc ∨ c ∈ l := by
    intro l
    induction l with
    | nil =>
      intro acc
      rw [spl_nil]
      exact ⟨by simp, by simp, fun x hx c hc => by rw [List.mem_singleton.mp hx] at hc; exact .inl hc⟩
    | cons d r ih =>
      intro acc
      by_cases h : pre [10] (d :: r) = true
      · have e : spl [10] 0 acc (d :: r) = acc :: spl [10] 0 [] r := spl_hit h
        obtain ⟨i1, i2, i3⟩ := ih []
        rw [e]
        refine ⟨by simp, ?_, fun x hx c hc => ?_⟩
        · rw [List.map_cons, List.sum_cons, List.length_cons, List.length_cons]
          rw [List.length_nil] at i2
          omega
        · rcases List.mem_cons.mp hx with e1 | m
          · rw [e1] at hc
            exact .inl hc
          · rcases i3 x m c hc with q | q
            · cases q
            · exact .inr (List.mem_cons_of_mem _ q)
      · have e : spl [10] 0 acc (d :: r) = spl [10] 0 (acc ++ [d]) r := by
          show (if pre [10] (d :: r) = true then _ else _) = _
          rw [if_neg h]
        obtain ⟨i1, i2, i3⟩ := ih (acc ++ [d])
        rw [e]
        refine ⟨i1, ?_, fun x hx c hc => ?_⟩
        · have a1 : (acc ++ [d]).length = acc.length + 1 := by simp
          have a2 : (d :: r).length = r.length + 1 := rfl
          omega
        · rcases i3 x hx c hc with q | q
          · rcases List.mem_append.mp q with q | q
            · exact .inl q
            · rw [List.mem_singleton.mp q]; exact .inr (List.mem_cons_self ..)
          · exact .inr (List.mem_cons_of_mem _ q)
  have e : (Txt.split z "\n").map tl = spl [10] 0 [] (tl z) := split_spl z "\n" (by decide) (kind_ok (by decide +kernel))
  obtain ⟨k1, k2, k3⟩ := key (tl z) []
  rw [← e] at k1 k2 k3
  refine ⟨fun h => k1 (by rw [h]; rfl), ?_, fun ok x hx c hc => ?_⟩
  · rw [List.map_map, List.length_map] at k2
    have c : ((List.length ∘ tl) : Str → Nat) = fun x => x.length := funext fun x => (len_tl x).symm
    rw [c] at k2
    unfold tot
    rw [k2, List.length_nil, len_tl z]
    omega
  · rcases k3 (tl x) (List.mem_map_of_mem hx) c hc with q | q
    · cases q
    · exact ok c q
end SH
set_option Elab.async false
set_option linter.all false
set_option maxRecDepth 100000
set_option maxHeartbeats 4000000
/-! sorted(xs), xs a list of pairs of a number and a text: by the number, then by the text -/
namespace SH
open PySem PySem.Spec PyProof.Rows L2
def nsLt (p q : Int × Str) : Prop := p.1 < q.1 ∨ (p.1 = q.1 ∧ p.2.cps.toList < q.2.cps.toList)
instance (p q : Int × Str) : Decidable (nsLt p q) := inferInstanceAs (Decidable (_ ∨ _))
def ltNS (k : Value → Int × Str) (v u : Value) : Bool := decide (nsLt (k v) (k u))
theorem ltNS_swo (k : Value → Int × Str) : SrtO.Swo (ltNS k) := by
  refine ⟨fun x y h => decide_eq_false ?_, fun x y z h1 h2 => decide_eq_false ?_⟩
  · have h := of_decide_eq_true h
    rintro (q | ⟨e, q⟩) <;> rcases h with h | ⟨e2, h⟩
    · omega
    · omega
    · omega
    · exact List.lt_irrefl _ (List.lt_trans h q)
  · have a := of_decide_eq_false h1
    have b := of_decide_eq_false h2
    rintro (q | ⟨e, q⟩)
    · by_cases c : (k y).1 < (k x).1
      · exact a (.inl c)
      · exact b (.inl (by omega))
    · by_cases c : (k y).1 < (k x).1
      · exact a (.inl c)
      · by_cases c2 : (k z).1 < (k y).1
        · exact b (.inl c2)
        · have e1 : (k y).1 = (k x).1 := by omega
          have e2 : (k z).1 = (k y).1 := by omega
          have l1 : (k x).2.cps.toList ≤ (k y).2.cps.toList := List.not_lt.mp fun z => a (.inr ⟨e1, z⟩)
          have l2 : (k y).2.cps.toList ≤ (k z).2.cps.toList := List.not_lt.mp fun z => b (.inr ⟨e2, z⟩)
          exact absurd q (List.not_lt.mpr (List.le_trans l1 l2))
section
variable {prog : Program} {w : World} {A : Around} {s : Shared}
theorem ns_cmp {vs : List Value} {k : Value → Int × Str} (hp : ∀ v ∈ vs, NT s.heap v (k v)) :
    SrtO.Cmp prog w A s (tuples' true) (fun p => p.1 ∈ vs) (SrtO.lt2 (ltNS k)) := by
  rintro ⟨x, kx⟩ ⟨y, ky⟩ mp mq
  show wpAny (model prog w) A (keyLt' (tuples' true) x y) (fun r s' => s' = s ∧ r = decide (nsLt (k x) (k y))) (fun _ _ => False) s
  obtain ⟨a, o, t, u, c, e, g, cl, d⟩ := hp _ mp
  obtain ⟨a', o', t', u', c', e', g', cl', d'⟩ := hp _ mq
  have ex : x = .ref a := e
  have ey : y = .ref a' := e'
  subst ex ey
  refine PySem.W.kat_lt g d g' d' (PySem.W.kat_cons (SeqAt.EqAt.int_int _ t _ t' prog w _ _ (PySem.W.kat_go (fun e1 => ?_) (fun e1 => ?_))))
  · have en : (k (.ref a)).1 = (k (.ref a')).1 := by simpa using e1
    refine PySem.W.kat_yes (PySem.W.kat_cons (SeqAt.EqAt.str_str _ u _ u' prog w _ _ (PySem.W.kat_go (fun e2 => ?_) (fun e2 => ?_))))
    · have ez : (k (.ref a)).2 = (k (.ref a')).2 := by simpa using e2
      refine PySem.W.kat_yes (PySem.W.kat_nil ⟨rfl, ?_⟩)
      refine (decide_eq_false ?_).symm
      rintro (q | ⟨_, q⟩)
      · omega
      · rw [ez] at q
        exact List.lt_irrefl _ q
    · refine PySem.W.kat_no (oneLt_any_str ⟨rfl, ?_⟩)
      refine decide_eq_decide.mpr ⟨fun q => .inr ⟨en, q⟩, fun q => ?_⟩
      rcases q with q | ⟨_, q⟩
      · omega
      · exact q
  · refine PySem.W.kat_no (oneLt_int ⟨rfl, ?_⟩)
    have en : (k (.ref a)).1 ≠ (k (.ref a')).1 := by simpa using e1
    exact decide_eq_decide.mpr ⟨.inl, fun q => q.elim id fun q => absurd q.1 en⟩
theorem ns_sortable {a : Addr} {vs : List Value} {k : Value → Int × Str} (h0 : 0 < vs.length) (hp : ∀ v ∈ vs, NT s.heap v (k v))
    (ha : ∀ o, s.heap.get? a = some o → o.cls ≠ .type "tuple") : SrtO.SortableO prog w A s a vs (ltNS k) := by
  intro h' keep
  have hp' : ∀ v ∈ vs, NT h' v (k v) := fun v m => (hp v m).on fun b o g c => keep b o (fun z => ha o (z ▸ g) c) g
  obtain ⟨fs, f1, f2, f3⟩ := nt_firsts vs hp'
  refine ⟨tuples' true, fun Q E q => PySem.W.kat_kind (T := .type "int") f1 (by omega) (fun f m => ?_) (by rfl) ?_, ns_cmp hp'⟩
  · obtain ⟨n, t, rfl⟩ := f3 f m
    exact PySem.W.Looks.now
  · have e : (Value.type "int" != Value.type "tuple") = true := by first | decide +kernel | rfl
    rw [e]
    exact q
end
/-- sorted(xs): a new list of the same pairs, by both -/
def rSortNS (K : PySem.W.Frag) : List V → Hp → VK → Prop := fun vs H Q => ∃ (a : Addr) (L : PL), vs = [.ref a] ∧ HsAt K H a L ∧
  ∀ (L' : PL) (p : Addr), L'.Perm L → L'.Pairwise (fun q r => ¬ nsLt r.2 q.2) → H p = none → Q (.ref p) (upd H p (.lst (refs L')))
section
variable {X : Cx}
theorem cr_sortNS : CallR X (.builtin "sorted") (rSortNS X.K) := by
  intro pins s τ H vs us Q I r h
  obtain ⟨a, L, rfl, hA, q⟩ := h
  obtain ⟨its, rv, hl, hz⟩ := I.list hA.1
  obtain ⟨u, rfl, ru⟩ := vals1 r
  obtain rfl : u = Value.ref a := ru
  obtain ⟨e1, e2⟩ := refs_back rv (fun x m => by
    obtain ⟨q, _, e⟩ := List.mem_map.mp m
    exact ⟨q.1, e.symm⟩)
  -- one address, one pair
  have un : ∀ q ∈ L, ∀ r ∈ L, q.1 = r.1 → q.2 = r.2 := fun q hq r hr e => by
    have z := I.tuple_inj (hA.2 q hq) (by rw [e]; exact hA.2 r hr)
    obtain ⟨x, n, t⟩ := q
    obtain ⟨y, m, t'⟩ := r
    simp at z
    show (n, t) = (m, t')
    rw [z.1, z.2]
  have mem : ∀ v ∈ its, ∃ q ∈ L, v = Value.ref q.1 := fun v hv => by
    obtain ⟨t, rfl⟩ := e2 v hv
    have m : V.ref t ∈ refs L := by
      rw [e1]
      exact List.mem_map.mpr ⟨_, hv, rfl⟩
    obtain ⟨q, hq, e⟩ := List.mem_map.mp m
    cases e
    exact ⟨q, hq, rfl⟩
  have nt : ∀ v ∈ its, NT s.heap v (atAddr L v) := fun v hv => by
    obtain ⟨q, hq, rfl⟩ := mem v hv
    rw [atAddr_of un hq]
    obtain ⟨i2, r2, ⟨o, g, c, n, d⟩, _⟩ := I.tuple (hA.2 q hq)
    obtain ⟨u1, u2, rfl, ⟨t1, rfl⟩, ⟨t2, rfl⟩⟩ := vals2 r2
    exact ⟨q.1, o, t1, t2, n, rfl, g, c, d⟩
  refine SrtO.sorted_ord (ltNS_swo (atAddr L)) hl.isList (by rw [← rv.length]; exact hz) (fun h2 h₁ b hb kk => ?_) (fun out hs hb => ?_)
  · refine ns_sortable (s := { s with heap := h₁ }) (by omega) (fun v m => (nt v m).on fun c o g _ => (kk c o g).2) (fun o g c => ?_)
    have g' : some o = some (seqObj "list" its.toArray 0) := g.symm.trans hb
    cases g'
    exact absurd (Value.type.inj c) (by decide)
  · have mo : ∀ v ∈ out, ∃ q ∈ L, v = Value.ref q.1 := fun v hv => mem v (hb.perm.mem_iff.mp hv)
    -- the pairs in their new order
    let f : Value → Addr × Int × Str := fun v => (addrOf v, atAddr L v)
    have fq : ∀ q ∈ L, f (.ref q.1) = q := fun q hq => by
      show (q.1, atAddr L (.ref q.1)) = q
      rw [atAddr_of un hq]
    have hL : its.map f = L := by
      have z : (refs L).map (fun v => match v with | .ref t => f (.ref t) | _ => (0, 0, "")) = L := by
        unfold refs
        rw [List.map_map]
        calc L.map _ = L.map id := List.map_congr_left fun q hq => fq q hq
          _ = L := List.map_id L
      rw [e1, List.map_map] at z
      refine Eq.trans (List.map_congr_left fun v hv => ?_) z
      obtain ⟨q, _, rfl⟩ := mem v hv
      rfl
    have hp : (out.map f).Perm L := by
      rw [← hL]
      exact hb.perm.map f
    have hr : refs (out.map f) = out.map backV := by
      unfold refs
      rw [List.map_map]
      refine List.map_congr_left fun v hv => ?_
      obtain ⟨q, _, rfl⟩ := mo v hv
      rfl
    have hsrt : (out.map f).Pairwise (fun q r => ¬ nsLt r.2 q.2) := by
      rw [List.pairwise_map]
      exact List.Pairwise.imp (fun {x y} h => of_decide_eq_false h) hs
    obtain ⟨n, hn⟩ := sortedAll_at s.heap its out.toArray
    have hd : s.heap.objs.size ≤ s.heap.objs.size + 1 := Nat.le_succ _
    refine ⟨.ref (s.heap.objs.size + 1), upd H (s.heap.objs.size + 1) (.lst (refs (out.map f))), I.laid (t' := s.toks) (fun b o g => sortedAll_old g) hd ⟨?_, out, n, ?_, hn⟩, rfl, q _ _ hp hsrt (I.hok.fresh hd)⟩
    · have e3 : (refs (out.map f)).length = (refs L).length := by
        unfold refs
        rw [List.length_map, List.length_map (as := L), hp.length_eq]
      rw [e3]
      exact hz
    · rw [hr]
      exact vals_back fun v hv => by
        obtain ⟨q, _, rfl⟩ := mo v hv
        exact ⟨q.1, rfl⟩
end
end SH
set_option Elab.async false
set_option linter.all false
set_option maxRecDepth 100000
set_option maxHeartbeats 4000000
namespace SH
open PySem PySem.Spec PyProof.Rows L2
section
variable {P : Program} {w : World} {K : PySem.W.Frag} {mg : Str → Option Value} {base : Heap} {ea : Ea}
/-- dicts of so many entries -/
def LensAt (H : Hp) (ds : List Addr) (ls : List Nat) : Prop := ds.length = ls.length ∧ ∀ (i : Nat) (d : Addr) (n : Nat), ds[i]? = some d → ls[i]? = some n → ∃ kvs, H d = some (.dK kvs) ∧ kvs.length = n
def spCount : Sp := fun vs H Q _ => ∃ (l : Addr) (ds : List Addr) (ls : List Nat), vs = [.ref l] ∧ H l = some (.lst (ds.map V.ref)) ∧ LensAt H ds ls ∧ ds.length ≤ 30000 ∧ ∀ H', Same H H' → Q (.int ((ls.map fun (n : Nat) => (n : Int)).sum)) H'
theorem sc_edge_count : FnScope ["edges", "row"] ["edges"] (defScope s_edge_count) := ⟨rfl, rfl, rfl, by decide +kernel, rfl, by decide +kernel, by decide +kernel⟩
theorem ok_edge_count (T : Txt K mg ea) : Cl P w K mg base 1 "edge_count" spCount := by
  have nd := sc_edge_count.nd
  refine cl_of T.d_edge_count sc_edge_count (fun vs H Q E h => ?_) (fun f cdv A outer s0 H vs Q E hr h => ?_)
  · obtain ⟨l, ds, ls, rfl, _⟩ := h
    rfl
  · obtain ⟨l, ds, ls, rfl, hl, ⟨ln, hd⟩, h1, q⟩ := h
    refine ⟨_, (pss_one (ps_ret (pe_callB (cr_sum rfl) (by rfl) T.b_sum (by decide +kernel) (pa_cons (pe_lc (own := [("row", 1)]) (g := (gName 1)) rfl nd (pi_listK (K := K) (pv 0)) (blkOk_by (own := [("row", 1)]) (N := ["edges", "row"]) (sc := defScope s_edge_count) (by decide +kernel)) (fun _ _ _ _ _ => (pg_name (i := 1) nd rfl (.inl rfl))) (fun _ _ _ _ _ => pts_nil) (fun _ _ _ _ _ => (pe_callB call_lenD (by rfl) T.b_len PySem.boot_len (pa_cons (pv 1) pa_nil)))) pa_nil)))), ?_⟩
    refine ⟨_, rfl, l, rfl, ⟨_, SqL.of hl⟩, fun D nD => ?_⟩
    refine lc_w (walk_list (xs := ds.map V.ref)) nD (by rw [List.length_map]; omega) (fun H' e => SqL.of (e _ _ hl)) (fun i acc _ => acc = ((ls.take i).map fun (n : Nat) => (n : Int)).map V.int) (fun _ _ => rfl) (fun _ _ _ _ _ _ _ r => r) (fun i H x H' y => by rw [y.1]; exact Same.refl _)
      (fun i x acc H3 H4 Qn Qf hi sm y r at_ kn kf => ?_) (fun acc H3 sm3 atD _ rl => ?_)
    · obtain ⟨rfl, hx⟩ := y
      rw [List.length_map] at hi
      have e : ds[i]? = some ds[i] := List.getElem?_eq_getElem hi
      have e2 : ls[i]? = some ls[i] := List.getElem?_eq_getElem (by omega)
      generalize ds[i] = d at e
      generalize ls[i] = n at e2
      rw [List.getElem?_map, e] at hx
      have hx := Option.some.inj hx
      subst hx
      obtain ⟨kvs, h2, h3⟩ := hd i d n e e2
      refine ⟨rfl, _, rfl, d, kvs, rfl, sm _ _ h2, ?_⟩
      refine kn _ _ (Same.refl _) ?_
      rw [r, List.take_add_one, e2, List.map_append, List.map_append, h3]
      rfl
    · rw [List.length_map, List.take_of_length_le (by omega)] at rl
      refine ⟨D, _, rfl, SqL.of (by rw [atD, rl]), q H3 sm3⟩
/-- does a word stand there -/
def spStands : Sp := fun vs H Q _ => ∃ (z w : Str) (k : Nat), vs = [.str z, .str w, .int ((k : Int) - (w.length : Int))] ∧ z.length ≤ 1000 ∧ w.length ≤ 1000 ∧ k ≤ z.length ∧ ∀ H', Same H H' → Q (.bl ((TL.tl w).isSuffixOf ((TL.tl z).take k))) H'
theorem sc__law_stands : FnScope ["text", "word", "start"] ["text", "word", "start"] (defScope s__law_stands) := ⟨rfl, rfl, rfl, by decide +kernel, rfl, by decide +kernel, by decide +kernel⟩
theorem ok__law_stands (T : Txt K mg ea) : Cl P w K mg base 1 "_law_stands" spStands := by
  have nd := sc__law_stands.nd
  refine cl_of T.d__law_stands sc__law_stands (fun vs H Q E h => ?_) (fun f cdv A outer s0 H vs Q E hr h => ?_)
  · obtain ⟨z, w, k, rfl, _⟩ := h
    rfl
  · obtain ⟨z, w, k, rfl, zl, wl, hk, q⟩ := h
    refine ⟨_, (pss_one (ps_ret (pe_and (pe_cmpR op_le pe_int (pv 2) (nomark _)) (pe_and (pe_cmpR op_le (pe_op op_add (pv 2) (pe_callB call_len_str (by rfl) T.b_len PySem.boot_len (pa_cons (pv 1) pa_nil))) (pe_callB call_len_str (by rfl) T.b_len PySem.boot_len (pa_cons (pv 0) pa_nil)) (nomark _)) (pe_one (pe_cmpR op_eq (pe_slice sl_str (pv 0) (po_some (pv 2)) (po_some (pe_op op_add (pv 2) (pe_callB call_len_str (by rfl) T.b_len PySem.boot_len (pa_cons (pv 1) pa_nil))))) (pv 1) (nomark _))))))), ?_⟩
    have sz : ∀ {n : Nat}, n ≤ 1000 → n ≤ sizeLine := fun h => Nat.le_trans h (by decide)
    have q' := q H (Same.refl H)
    have lz : (TL.tl z).length = z.length := (TL.len_tl z).symm
    have lw : (TL.tl w).length = w.length := (TL.len_tl w).symm
    by_cases c : w.length ≤ k
    · have d0 : decide ((0 : Int) ≤ (k : Int) - (w.length : Int)) = true := decide_eq_true (by omega)
      have d1 : decide ((k : Int) - (w.length : Int) + (w.length : Int) ≤ (z.length : Int)) = true := decide_eq_true (by omega)
      have es : (k : Int) - (w.length : Int) = ((k - w.length : Nat) : Int) := by omega
      have ek : (k : Int) - (w.length : Int) + (w.length : Int) = (k : Int) := by omega
      have cut : TL.tl (cutS z (some ((k : Int) - (w.length : Int))) (some ((k : Int) - (w.length : Int) + (w.length : Int)))) = ((TL.tl z).take k).drop (k - w.length) := by
        rw [ek, es, take_drop_cut (by omega) hk]
      have tkl : ((TL.tl z).take k).length = k := by rw [List.length_take]; omega
      have eqv : decide (V.str (cutS z (some ((k : Int) - (w.length : Int))) (some ((k : Int) - (w.length : Int) + (w.length : Int)))) = V.str w) = (TL.tl w).isSuffixOf ((TL.tl z).take k) := by
        refine Bool.eq_iff_iff.mpr ?_
        rw [decide_eq_true_eq, List.isSuffixOf_iff_suffix]
        constructor
        · intro e
          have e2 := V.str.inj e
          have e3 := congrArg TL.tl e2
          rw [cut] at e3
          rw [← e3]
          exact List.drop_suffix _ _
        · intro s
          refine congrArg V.str (TL.ext_tl ?_)
          rw [cut]
          have h1 : ((TL.tl z).take k).drop (k - w.length) <:+ (TL.tl z).take k := List.drop_suffix _ _
          exact (Sam.suf_of h1 s (by rw [List.length_drop, tkl]; omega)).eq_of_length (by rw [List.length_drop, tkl]; omega)
      refine ⟨_, rfl, _, _, rfl, rfl, _, rfl, ?_⟩
      rw [if_pos d0]
      refine ⟨_, rfl, _, rfl, w, rfl, sz wl, _, _, rfl, rfl, _, rfl, z, rfl, sz zl, _, _, rfl, rfl, _, rfl, ?_⟩
      rw [if_pos d1]
      refine ⟨_, rfl, _, rfl, _, rfl, _, rfl, _, rfl, w, rfl, sz wl, _, _, rfl, rfl, _, rfl, z, rfl, sz zl, _, rfl, rfl, ?_⟩
      rw [← eqv] at q'
      exact q'
    · have d0 : decide ((0 : Int) ≤ (k : Int) - (w.length : Int)) = false := decide_eq_false (by omega)
      refine ⟨_, rfl, _, _, rfl, rfl, _, rfl, ?_⟩
      rw [if_neg (by rw [d0]; decide)]
      have : (TL.tl w).isSuffixOf ((TL.tl z).take k) = false := by
        cases e : (TL.tl w).isSuffixOf ((TL.tl z).take k) with
        | false => rfl
        | true =>
          have := (List.isSuffixOf_iff_suffix.mp e).length_le
          rw [List.length_take] at this
          omega
      rw [this] at q'
      exact q'
end

end SH


set_option Elab.async false
set_option linter.all false
set_option maxRecDepth 100000
set_option maxHeartbeats 4000000
namespace SH
open PySem PySem.Spec PyProof.Rows L2
theorem plc_app (a b : List (Int × Sam.Wd)) (w : Sam.Wd) : Sam.plc (a ++ b) w = Sam.plc a w ++ Sam.plc b w := by
  unfold Sam.plc
  rw [List.flatMap_append]
theorem plc_one (m : Int) (t w : Sam.Wd) : Sam.plc [(m, t)] w = (Sam.endsIn w t).map fun k => (m, k) := by
  unfold Sam.plc
  simp
section
variable {P : Program} {w : World} {K : PySem.W.Frag} {mg : Str → Option Value} {base : Heap} {ea : Ea}
/-- where a word ends -/
def spEnds (K : PySem.W.Frag) : Sp := fun vs H Q _ => ∃ (h : Addr) (L : PL) (w : Str), vs = [.ref h, .str w] ∧ HsAt K H h L ∧ L.length ≤ 8 ∧ (∀ q ∈ L, q.2.2.length ≤ 40) ∧ w.length ≤ 1000 ∧
  ∀ H' l R, Same H H' → H l = none → H' l = some (.lst (prefs R)) → PAt H' R → R.map (·.2) = Sam.plc (hsOf L) (TL.tl w) → Q (.ref l) H'
theorem sc__law_ends : FnScope ["house", "word", "out", "number", "text", "stop"] ["house", "word"] (defScope s__law_ends) := ⟨rfl, rfl, rfl, by decide +kernel, rfl, by decide +kernel, by decide +kernel⟩
theorem ok__law_ends (T : Txt K mg ea) (c__law_stands : Cl P w K mg base 1 "_law_stands" spStands) : Cl P w K mg base 2 "_law_ends" (spEnds K) := by
  have nd := sc__law_ends.nd
  refine cl_of T.d__law_ends sc__law_ends (fun vs H Q E h => ?_) (fun f cdv A outer s0 H vs Q E hr h => ?_)
  · obtain ⟨hh, L, w, rfl, _⟩ := h
    rfl
  · obtain ⟨hh, L, w, rfl, hA, hl, ht, wl, q⟩ := h
    refine ⟨_, (pss_cons (ps_set (i := 2) nd rfl (.inl rfl) (pe_lst pa_nil))
      (pss_cons (ps_for PassesOwn.never rfl (pi_listK (K := K) (pv 0)) (pg_tup rfl (pgs_cons (pg_name (i := 3) nd rfl (.inr rfl)) (pgs_cons (pg_name (i := 4) nd rfl (.inr rfl)) pgs_nil)))
        (pss_one (ps_set (i := 2) nd rfl (.inl rfl) (pe_op op_cat (pv 2) (pe_lc (own := [("stop", 5)]) (g := (gName 5)) rfl nd (pi_range1 rfl T.b_range (pa_cons (pe_op op_add (pe_callB call_len_str (by rfl) T.b_len PySem.boot_len (pa_cons (pv 4) pa_nil)) pe_int) pa_nil)) (blkOk_by (own := [("stop", 5)]) (N := ["house", "word", "out", "number", "text", "stop"]) (sc := defScope s__law_ends) (by decide +kernel)) (fun _ _ _ _ _ => (pg_name (i := 5) nd rfl (.inl rfl))) (fun _ _ _ _ _ => pts_one (pt_val (C8.pe_c c__law_stands hr (by decide) (by rfl) (pa_cons (pv 4) (pa_cons (pv 1) (pa_cons (pe_op op_sub (pv 5) (pe_callB call_len_str (by rfl) T.b_len PySem.boot_len (pa_cons (pv 1) pa_nil))) pa_nil)))))) (fun _ _ _ _ _ => (pe_tup (pa_cons (pv 3) (pa_cons (pv 5) pa_nil)))))))))
      (pss_one (ps_ret (pv 2))))), ?_⟩
    have rl : (refs L).length = L.length := List.length_map ..
    have sz : ∀ {n : Nat}, n ≤ 1000 → n ≤ sizeLine := fun h => Nat.le_trans h (by decide)
    refine ⟨Nat.zero_le _, fun o0 no0 => ?_⟩
    refine ⟨_, rfl, hh, rfl, ⟨_, (same_new no0).seq hA.1⟩, ?_⟩
    refine for_list (K := K) (a := hh) (xs := refs L) (fun i σ H' => ∃ (o : Addr) (R : PT) (y3 y4 : Option V), σ = [some (.ref hh), some (.str w), some (.ref o), y3, y4, none] ∧ Same H H' ∧ H o = none ∧ H' o = some (.lst (prefs R)) ∧ PAt H' R ∧ R.map (·.2) = Sam.plc ((hsOf L).take i) (TL.tl w))
      ⟨o0, [], none, none, rfl, same_new no0, no0, upd_same, (fun q m => nomatch m), rfl⟩ (fun i σ H' _ hW => ?_) (fun i x σ H' hx hW => ?_) (fun σ H' hW => ?_)
    · obtain ⟨o, R, y3, y4, rfl, sm, _⟩ := hW
      exact sm.seq hA.1
    · obtain ⟨o, R, y3, y4, rfl, sm, no, ato, pR, eR⟩ := hW
      obtain ⟨t, et, tm, rfl⟩ := refs_get hx
      have iL : i < L.length := (List.getElem?_eq_some_iff.mp et).1
      have t40 := ht t tm
      have ehs : (hsOf L)[i]? = some (t.2.1, TL.tl t.2.2) := by unfold hsOf; rw [List.getElem?_map, et]; rfl
      have tk : (hsOf L).take (i + 1) = (hsOf L).take i ++ [(t.2.1, TL.tl t.2.2)] := by rw [List.take_add_one, ehs]; rfl
      have lt : (TL.tl t.2.2).length = t.2.2.length := (TL.len_tl _).symm
      refine ⟨_, _, rfl, same_tup sm (hA.2 t tm), rfl, _, _, rfl, _, _, rfl, rfl, ?_⟩
      refine ⟨_, rfl, _, rfl, t.2.2, rfl, sz (by omega), _, _, rfl, rfl, _, rfl, by show -(2 ^ 62) ≤ (t.2.2.length : Int) + 1; omega, by show (t.2.2.length : Int) + 1 < 2 ^ 62; omega, fun D nD => ?_⟩
      have en : ((t.2.2.length : Int) + 1).toNat = t.2.2.length + 1 := by omega
      refine lc_w (walk_range (lo := 0) (n := ((t.2.2.length : Int) + 1).toNat)) nD (by omega) (fun _ _ => trivial) (fun j acc H' => ∃ R2 : PT, acc = prefs R2 ∧ PAt H' R2 ∧ R2.map (·.2) = ((List.range j).filter fun k => (TL.tl w).isSuffixOf ((TL.tl t.2.2).take k)).map fun k => (t.2.1, k)) (fun _ _ => ⟨[], rfl, (fun q m => nomatch m), rfl⟩) (fun j acc H5 H6 l0 h0 but r => ?_) (fun i H x H' y => by rw [y.1]; exact Same.refl _)
        (fun j x acc HA HB Qn Qf hj sm2 y r at_ kn kf => ?_) (fun acc HA smA atD _ rD => ?_)
      · obtain ⟨R2, r1, r2, r3⟩ := r
        exact ⟨R2, r1, fun q hq => but _ _ (fun z => by have := r2 q hq; rw [z, h0] at this; cases this) (r2 q hq), r3⟩
      · obtain ⟨rfl, rfl⟩ := y
        obtain ⟨R2, r1, r2, r3⟩ := r
        have ej : (0 : Int) + (j : Int) = (j : Int) := by omega
        have flt : ((List.range (j + 1)).filter fun k => (TL.tl w).isSuffixOf ((TL.tl t.2.2).take k)) = ((List.range j).filter fun k => (TL.tl w).isSuffixOf ((TL.tl t.2.2).take k)) ++ (if (TL.tl w).isSuffixOf ((TL.tl t.2.2).take j) = true then [j] else []) := by
          rw [List.range_succ, List.filter_append]
          congr 1
          by_cases c : (TL.tl w).isSuffixOf ((TL.tl t.2.2).take j) = true
          · rw [if_pos c]; simp [c]
          · rw [if_neg c]; simp [c]
        refine ⟨rfl, _, rfl, _, rfl, _, rfl, _, rfl, w, rfl, sz wl, _, _, rfl, rfl, t.2.2, w, j, by show [V.str t.2.2, V.str w, V.int (0 + (j : Int) - (w.length : Int))] = _; rw [ej], by omega, wl, by omega, fun H6 s6 => ?_⟩
        by_cases c : (TL.tl w).isSuffixOf ((TL.tl t.2.2).take j) = true
        · rw [c]
          refine ⟨_, rfl, ?_⟩
          refine ⟨_, rfl, _, rfl, (by show 2 ≤ sizeLine; decide), fun tt ntt => ?_⟩
          have s7 := s6.trans (same_new (o := .tup [.int t.2.1, .int (0 + (j : Int))]) ntt)
          refine kn _ _ s7 ⟨R2 ++ [(tt, t.2.1, j)], by rw [r1, prefs_app]; rfl, fun q hq => ?_, ?_⟩
          · rcases List.mem_append.mp hq with m | m
            · exact s7 _ _ (r2 q m)
            · rw [List.mem_singleton.mp m]
              show (upd _ tt _) tt = some (.tup [.int t.2.1, .int (j : Int)])
              rw [upd_same]
              show some (HO.tup [V.int t.2.1, V.int (0 + (j : Int))]) = _
              rw [ej]
          · rw [List.map_append, r3, flt, if_pos c, List.map_append]
            rfl
        · have c' : (TL.tl w).isSuffixOf ((TL.tl t.2.2).take j) = false := Bool.eq_false_iff.mpr c
          rw [c']
          refine ⟨_, rfl, ?_⟩
          exact kf _ s6 ⟨R2, r1, r2.same s6, by rw [r3, flt, if_neg c, List.append_nil]⟩
      · obtain ⟨R2, r1, r2, r3⟩ := rD
        rw [en] at r3
        have l2 : R2.length ≤ 41 := by
          have := congrArg List.length r3
          rw [List.length_map, List.length_map] at this
          have := List.length_filter_le (fun k => (TL.tl w).isSuffixOf ((TL.tl t.2.2).take k)) (List.range (t.2.2.length + 1))
          rw [List.length_range] at this
          omega
        have l1 : R.length ≤ 41 * ((hsOf L).take i).length := by
          have := congrArg List.length eR
          rw [List.length_map] at this
          rw [this]
          refine plc_len fun q hq => ?_
          obtain ⟨y, hy, rfl⟩ := List.mem_map.mp (List.mem_of_mem_take hq)
          have := ht y hy
          rw [TL.len_tl] at this
          exact this
        have l3 : ((hsOf L).take i).length ≤ 8 := by rw [List.length_take]; unfold hsOf; rw [List.length_map]; omega
        have smHA := sm.trans smA
        refine ⟨o, D, _, _, rfl, rfl, smA _ _ ato, atD, Nat.le_trans (by rw [r1, prefs_len, prefs_len]; omega : _ ≤ 1000) (by decide), fun p np => ?_⟩
        have s9 := same_new (o := .lst (prefs R ++ acc)) np
        refine ⟨p, R ++ R2, _, _, rfl, smHA.trans s9, smHA.free np, by rw [upd_same, prefs_app, r1], fun q hq => ?_, ?_⟩
        · rcases List.mem_append.mp hq with m | m
          · exact s9 _ _ (smA _ _ (pR q m))
          · exact s9 _ _ (r2 q m)
        · rw [List.map_append, eR, r3, tk, plc_app, plc_one]
          unfold Sam.endsIn
          rw [lt]
    · obtain ⟨o, R, y3, y4, rfl, sm, no, ato, pR, eR⟩ := hW
      rw [rl, List.take_of_length_le (by unfold hsOf; rw [List.length_map]; exact Nat.le_refl _)] at eR
      exact ⟨_, rfl, q H' o R sm no ato pR eR⟩
end

end SH


set_option Elab.async false
set_option linter.all false
set_option maxRecDepth 100000
set_option maxHeartbeats 4000000
namespace SH
open PySem PySem.Spec PyProof.Rows L2
/-- the stretches of a text, one for each start and stop -/
def wordsOf (t : Sam.Wd) : List Sam.Wd := (List.range t.length).flatMap fun a => (List.range (t.length - a)).map fun d => (t.drop a).take (d + 1)
theorem mem_words {t w : Sam.Wd} : w ∈ wordsOf t ↔ w ≠ [] ∧ ∃ x y, t = x ++ w ++ y := by
  unfold wordsOf
  rw [List.mem_flatMap]
  constructor
  · rintro ⟨a, ha, h⟩
    obtain ⟨d, hd, rfl⟩ := List.mem_map.mp h
    have ha := List.mem_range.mp ha
    have hd := List.mem_range.mp hd
    refine ⟨fun z => ?_, t.take a, (t.drop a).drop (d + 1), ?_⟩
    · have := congrArg List.length z
      rw [List.length_take, List.length_drop, List.length_nil] at this
      omega
    · rw [List.append_assoc, List.take_append_drop, List.take_append_drop]
  · rintro ⟨n, x, y, e⟩
    have hw : 0 < w.length := by
      cases w with
      | nil => exact absurd rfl n
      | cons a b => exact Nat.succ_pos _
    have hl : t.length = x.length + w.length + y.length := by rw [e]; simp [Nat.add_assoc]
    refine ⟨x.length, List.mem_range.mpr (by omega), List.mem_map.mpr ⟨w.length - 1, List.mem_range.mpr (by omega), ?_⟩⟩
    rw [show w.length - 1 + 1 = w.length by omega, e, List.append_assoc, List.drop_left' rfl, List.take_left' rfl]
/-- two words weakly by size, then as texts -/
theorem not_nsLt {u v : Str} (h : ¬ nsLt ((v.length : Int), v) ((u.length : Int), u)) : ¬ Sam.slx (TL.tl v) (TL.tl u) := by
  rintro (q | ⟨e, q⟩)
  · rw [← TL.len_tl, ← TL.len_tl] at q
    exact h (.inl (by show (v.length : Int) < (u.length : Int); omega))
  · rw [← TL.len_tl, ← TL.len_tl] at e
    exact h (.inr ⟨by show (v.length : Int) = (u.length : Int); omega, q⟩)
theorem str_S (z : Str) : V.str (SX.S (TL.tl z)) = V.str z := congrArg V.str (TL.mk_tl z)
theorem last_max {os : List Sam.Wd} (h : os.Pairwise Sam.slx) (n : os ≠ []) : ∀ x ∈ os, x = os.getLast n ∨ Sam.slx x (os.getLast n) := fun x hx => by
  have e := List.dropLast_concat_getLast n
  rw [← e] at hx h
  rcases List.mem_append.mp hx with m | m
  · exact .inr ((List.pairwise_append.mp h).2.2 x m _ (List.mem_singleton.mpr rfl))
  · exact .inl (List.mem_singleton.mp m)
section
variable {P : Program} {w : World} {K : PySem.W.Frag} {mg : Str → Option Value} {base : Heap} {ea : Ea}
theorem szB {n : Nat} (h : n ≤ 100000) : n < sizeLine := Nat.lt_of_le_of_lt h (by decide)
def strsV (ws : List Sam.Wd) : List V := ws.map fun w => V.str (SX.S w)
/-- all stretches, by size, then as texts, each once -/
def spWords (K : PySem.W.Frag) : Sp := fun vs H Q _ => ∃ (h : Addr) (L : PL), vs = [.ref h] ∧ HsAt K H h L ∧ L.length ≤ 8 ∧ (∀ q ∈ L, q.2.2.length ≤ 40) ∧
  ∀ H' l ws, Same H H' → H l = none → H' l = some (.lst (strsV ws)) → ws.Pairwise Sam.slx → ws.length ≤ 20000 → (∀ w, w ∈ ws ↔ w ≠ [] ∧ ∃ t ∈ (hsOf L).map (·.2), ∃ x y, t = x ++ w ++ y) → Q (.ref l) H'
theorem sc__law_words : FnScope ["house", "words", "number", "text", "start", "stop", "out", "size", "word"] ["house"] (defScope s__law_words) := ⟨rfl, rfl, rfl, by decide +kernel, rfl, by decide +kernel, by decide +kernel⟩
theorem ok__law_words (T : Txt K mg ea) : Cl P w K mg base 1 "_law_words" (spWords K) := by
  have nd := sc__law_words.nd
  refine cl_of T.d__law_words sc__law_words (fun vs H Q E h => ?_) (fun f cdv A outer s0 H vs Q E hr h => ?_)
  · obtain ⟨hh, L, rfl, _⟩ := h
    rfl
  · obtain ⟨hh, L, rfl, hA, hl, ht, q⟩ := h
    refine ⟨_, (pss_cons (ps_set (i := 1) nd rfl (.inl rfl) (pe_lst pa_nil))
      (pss_cons (ps_for PassesOwn.never rfl (pi_listK (K := K) (pv 0)) (pg_tup rfl (pgs_cons (pg_name (i := 2) nd rfl (.inl rfl)) (pgs_cons (pg_name (i := 3) nd rfl (.inl rfl)) pgs_nil)))
        (pss_one (ps_for PassesOwn.never rfl (pi_range1 rfl T.b_range (pa_cons (pe_callB call_len_str (by rfl) T.b_len PySem.boot_len (pa_cons (pv 3) pa_nil)) pa_nil)) (pg_name (i := 4) nd rfl (.inl rfl))
            (pss_one (ps_for PassesOwn.never rfl (pi_range2 rfl T.b_range (pa_cons (pe_op op_add (pv 4) pe_int) (pa_cons (pe_op op_add (pe_callB call_len_str (by rfl) T.b_len PySem.boot_len (pa_cons (pv 3) pa_nil)) pe_int) pa_nil))) (pg_name (i := 5) nd rfl (.inl rfl))
                (pss_one (ps_expr (pe_bm PySem.F.plainAttrs_list PySem.F.slot_list_append PySem.F.type_list_append mt_append (pv 1) (pa_cons (pe_tup (pa_cons (pe_op op_sub (pv 5) (pv 4)) (pa_cons (pe_slice sl_str (pv 3) (po_some (pv 4)) (po_some (pv 5))) pa_nil))) pa_nil)))))))))
      (pss_cons (ps_set (i := 6) nd rfl (.inl rfl) (pe_lst pa_nil))
      (pss_cons (ps_for PassesOwn.never rfl (pi_listK (K := K) (pe_callB cr_sortNS (by rfl) T.b_sorted (by decide +kernel) (pa_cons (pv 1) pa_nil))) (pg_tup rfl (pgs_cons (pg_name (i := 7) nd rfl (.inl rfl)) (pgs_cons (pg_name (i := 8) nd rfl (.inl rfl)) pgs_nil)))
        (pss_one (ps_if (PW.pt (pw_or (pt_cmpR op_eq (pe_callB call_len_seq (by rfl) T.b_len PySem.boot_len (pa_cons (pv 6) pa_nil)) pe_int (nomark _)) (pw_or1 (pt_cmpR op_ne (pe_ix (ixl (K := K)) (pv 6) (pe_un un_neg pe_int) (fun _ _ => rfl)) (pv 8) (nomark _)))))
            (pss_one (ps_expr (pe_bm PySem.F.plainAttrs_list PySem.F.slot_list_append PySem.F.type_list_append mt_append (pv 6) (pa_cons (pv 8) pa_nil))))
            pss_nil)))
      (pss_one (ps_ret (pv 6))))))), ?_⟩
    have rl : (refs L).length = L.length := List.length_map ..
    have sz : ∀ {n : Nat}, n ≤ 1000 → n ≤ sizeLine := fun h => Nat.le_trans h (by decide)
    refine ⟨Nat.zero_le _, fun wl nwl => ?_⟩
    refine ⟨_, rfl, hh, rfl, ⟨_, (same_new nwl).seq hA.1⟩, ?_⟩
    refine for_list (K := K) (a := hh) (xs := refs L) (fun i σ H' => ∃ (L2 : PL) (y2 y3 y4 y5 : Option V), σ = [some (.ref hh), some (.ref wl), y2, y3, y4, y5, none, none, none] ∧ Same H H' ∧ H' wl = some (.lst (refs L2)) ∧ PairsAt K H' L2 ∧ (L2.map fun q => TL.tl q.2.2) = ((hsOf L).take i).flatMap (fun q => wordsOf q.2) ∧ (∀ q ∈ L2, q.2.1 = (q.2.2.length : Int)) ∧ L2.length ≤ 1700 * i)
      ⟨[], none, none, none, none, rfl, same_new nwl, upd_same, (fun q m => nomatch m), rfl, (fun q m => nomatch m), Nat.le_refl _⟩ (fun i σ H' _ hW => ?_) (fun i x σ H' hx hW => ?_) (fun σ H' hW => ?_)
    · obtain ⟨L2, y2, y3, y4, y5, rfl, sm, _⟩ := hW
      exact sm.seq hA.1
    · obtain ⟨L2, y2, y3, y4, y5, rfl, sm, atw, pw, ew, ln, l2⟩ := hW
      obtain ⟨t, et, tm, rfl⟩ := refs_get hx
      have iL : i < L.length := (List.getElem?_eq_some_iff.mp et).1
      have t40 := ht t tm
      have ehs : (hsOf L)[i]? = some (t.2.1, TL.tl t.2.2) := by unfold hsOf; rw [List.getElem?_map, et]; rfl
      have tk : (hsOf L).take (i + 1) = (hsOf L).take i ++ [(t.2.1, TL.tl t.2.2)] := by rw [List.take_add_one, ehs]; rfl
      have lt : (TL.tl t.2.2).length = t.2.2.length := (TL.len_tl _).symm
      refine ⟨_, _, rfl, same_tup sm (hA.2 t tm), rfl, _, _, rfl, _, _, rfl, rfl, ?_⟩
      refine ⟨_, rfl, t.2.2, rfl, sz (by omega), _, rfl, by show -(2 ^ 62) ≤ (t.2.2.length : Int); omega, by show (t.2.2.length : Int) < 2 ^ 62; omega, ?_⟩
      have en : ((t.2.2.length : Int)).toNat = t.2.2.length := by omega
      show ∃ W, _
      rw [en]
      refine for_range (lo := 0) (n := t.2.2.length) (fun a σ H' => ∃ (L2 : PL) (y4 y5 : Option V), σ = [some (.ref hh), some (.ref wl), some (.int t.2.1), some (.str t.2.2), y4, y5, none, none, none] ∧ Same H H' ∧ H' wl = some (.lst (refs L2)) ∧ PairsAt K H' L2 ∧ (L2.map fun q => TL.tl q.2.2) = ((hsOf L).take i).flatMap (fun q => wordsOf q.2) ++ (List.range a).flatMap (fun a => (List.range (t.2.2.length - a)).map fun d => ((TL.tl t.2.2).drop a).take (d + 1)) ∧ (∀ q ∈ L2, q.2.1 = (q.2.2.length : Int)) ∧ L2.length ≤ 1700 * i + 41 * a)
        ⟨L2, y4, y5, rfl, sm, atw, pw, by rw [ew]; simp, ln, l2⟩ (fun a σ H' ha hW => ?_) (fun σ H' hW => ?_)
      · obtain ⟨L2, y4, y5, rfl, sm, atw, pw, ew, ln, l2⟩ := hW
        refine ⟨_, rfl, _, _, rfl, rfl, _, rfl, t.2.2, rfl, sz (by omega), _, _, rfl, rfl, _, _, rfl, ⟨by show -(2 ^ 62) ≤ (0 : Int) + (a : Int) + 1; omega, by show (0 : Int) + (a : Int) + 1 < 2 ^ 62; omega, by show -(2 ^ 62) ≤ (t.2.2.length : Int) + 1; omega, by show (t.2.2.length : Int) + 1 < 2 ^ 62; omega⟩, ?_⟩
        have en2 : ((t.2.2.length : Int) + 1 - ((0 : Int) + (a : Int) + 1)).toNat = t.2.2.length - a := by omega
        show ∃ W, _
        rw [en2]
        refine for_range (lo := (0 : Int) + (a : Int) + 1) (n := t.2.2.length - a) (fun d σ H' => ∃ (L2 : PL) (y5 : Option V), σ = [some (.ref hh), some (.ref wl), some (.int t.2.1), some (.str t.2.2), some (.int (0 + (a : Int))), y5, none, none, none] ∧ Same H H' ∧ H' wl = some (.lst (refs L2)) ∧ PairsAt K H' L2 ∧ (L2.map fun q => TL.tl q.2.2) = ((hsOf L).take i).flatMap (fun q => wordsOf q.2) ++ (List.range a).flatMap (fun a => (List.range (t.2.2.length - a)).map fun d => ((TL.tl t.2.2).drop a).take (d + 1)) ++ (List.range d).map (fun d => ((TL.tl t.2.2).drop a).take (d + 1)) ∧ (∀ q ∈ L2, q.2.1 = (q.2.2.length : Int)) ∧ L2.length ≤ 1700 * i + 41 * a + d)
          ⟨L2, y5, rfl, sm, atw, pw, by rw [ew]; simp, ln, l2⟩ (fun d σ H' hd hW => ?_) (fun σ H' hW => ?_)
        · obtain ⟨L2, y5, rfl, sm, atw, pw, ew, ln, l2⟩ := hW
          have e1 : (0 : Int) + (a : Int) = (a : Int) := by omega
          have e2 : (0 : Int) + (a : Int) + 1 + (d : Int) = ((a + 1 + d : Nat) : Int) := by omega
          have cut : TL.tl (cutS t.2.2 (some ((0 : Int) + (a : Int))) (some ((0 : Int) + (a : Int) + 1 + (d : Int)))) = ((TL.tl t.2.2).drop a).take (d + 1) := by
            rw [e2, e1, take_drop_cut (by omega) (by omega), List.drop_take]
            congr 1
            omega
          refine ⟨_, rfl, .inl ⟨rfl, _, SqL.of atw⟩, _, rfl, _, rfl, _, _, rfl, rfl, _, rfl, _, rfl, _, rfl, _, rfl, _, rfl, t.2.2, rfl, sz (by omega), (by show 2 ≤ sizeLine; decide), fun tt ntt => ?_⟩
          have s7 := same_new (o := .tup [.int ((0 : Int) + (a : Int) + 1 + (d : Int) - ((0 : Int) + (a : Int))), .str (cutS t.2.2 (some ((0 : Int) + (a : Int))) (some ((0 : Int) + (a : Int) + 1 + (d : Int))))]) ntt
          have wtt : wl ≠ tt := fun z => by rw [← z, atw] at ntt; cases ntt
          refine ⟨wl, _, _, rfl, rfl, s7 _ _ atw, szB (by rw [refs, List.length_map]; omega), ?_⟩
          have el : (0 : Int) + (a : Int) + 1 + (d : Int) - ((0 : Int) + (a : Int)) = ((cutS t.2.2 (some ((0 : Int) + (a : Int))) (some ((0 : Int) + (a : Int) + 1 + (d : Int)))).length : Int) := by
            rw [TL.len_tl, cut, List.length_take, List.length_drop, lt]
            omega
          refine ⟨L2 ++ [(tt, (0 : Int) + (a : Int) + 1 + (d : Int) - ((0 : Int) + (a : Int)), cutS t.2.2 (some ((0 : Int) + (a : Int))) (some ((0 : Int) + (a : Int) + 1 + (d : Int))))], _, rfl, same_mut (sm.trans s7) nwl, ?_, fun q hq => ?_, ?_, fun q hq => ?_, ?_⟩
          · rw [upd_same]
            unfold refs
            rw [List.map_append]
            rfl
          · rcases List.mem_append.mp hq with m | m
            · have h := same_tup s7 (pw q m)
              rcases h with (h | ⟨o, h⟩) | h
              · exact .inl (.inl (by rw [upd_ne (fun z => by rw [z, s7 _ _ atw] at h; cases h)]; exact h))
              · exact .inl (.inr ⟨o, by rw [upd_ne (fun z => by rw [z, s7 _ _ atw] at h; cases h)]; exact h⟩)
              · exact .inr h
            · rw [List.mem_singleton.mp m]
              exact .inl (.inl (by rw [upd_ne wtt.symm]; exact upd_same))
          · rw [List.map_append, ew, List.range_succ, List.map_append, ← List.append_assoc]
            show _ ++ [TL.tl (cutS t.2.2 _ _)] = _ ++ [_]
            rw [cut]
          · rcases List.mem_append.mp hq with m | m
            · exact ln q m
            · rw [List.mem_singleton.mp m]; exact el
          · rw [List.length_append]
            show L2.length + 1 ≤ _
            omega
        · obtain ⟨L2, y5, rfl, sm, atw, pw, ew, ln, l2⟩ := hW
          refine ⟨L2, _, _, rfl, sm, atw, pw, ?_, ln, by omega⟩
          rw [ew, List.range_succ, List.flatMap_append, List.append_assoc]
          simp
      · obtain ⟨L2, y4, y5, rfl, sm, atw, pw, ew, ln, l2⟩ := hW
        refine ⟨L2, _, _, _, _, rfl, sm, atw, pw, ?_, ln, by omega⟩
        rw [ew, tk, List.flatMap_append]
        unfold wordsOf
        rw [lt.symm]
        simp
    · obtain ⟨L2, y2, y3, y4, y5, rfl, sm, atw, pw, ew, ln, l2⟩ := hW
      have hsl : (hsOf L).length = L.length := List.length_map ..
      rw [rl, List.take_of_length_le (by omega)] at ew
      rw [rl] at l2
      -- sorted, each once
      refine ⟨Nat.zero_le _, fun ol nol => ?_⟩
      have sO := same_new (o := .lst []) nol
      have wol : wl ≠ ol := ne_of_none atw nol
      refine ⟨_, rfl, wl, L2, rfl, ⟨SqL.of (sO _ _ atw), fun q m => same_tup sO (pw q m)⟩, fun L3 p perm srt np => ?_⟩
      have sP := sO.trans (same_new (o := .lst (refs L3)) np)
      have atO : (upd (upd H' ol (.lst [])) p (.lst (refs L3))) ol = some (.lst (strsV [])) := same_new np _ _ upd_same
      have atP : (upd (upd H' ol (.lst [])) p (.lst (refs L3))) p = some (.lst (refs L3)) := upd_same
      have pw3 : PairsAt K (upd (upd H' ol (.lst [])) p (.lst (refs L3))) L3 := fun q m => same_tup sP (pw q (perm.mem_iff.mp m))
      have pol : p ≠ ol := fun z => by rw [z, upd_same] at np; cases np
      have ln3 : ∀ q ∈ L3, q.2.1 = (q.2.2.length : Int) := fun q m => ln q (perm.mem_iff.mp m)
      have l3 : L3.length = L2.length := perm.length_eq
      have nol0 := sm.free nol
      have sm3 : Same H (upd (upd H' ol (.lst [])) p (.lst (refs L3))) := sm.trans sP
      have order : ∀ i j (hi : i < L3.length) (hj : j < L3.length), i < j → ¬ Sam.slx (TL.tl L3[j].2.2) (TL.tl L3[i].2.2) := fun i j hi hj hij => by
        have h := List.pairwise_iff_getElem.mp srt i j hi hj hij
        refine not_nsLt ?_
        rw [← ln3 _ (List.getElem_mem hi), ← ln3 _ (List.getElem_mem hj)]
        exact h
      have rl3 : (refs L3).length = L3.length := List.length_map ..
      refine ⟨p, rfl, ⟨_, SqL.of atP⟩, ?_⟩
      generalize upd (upd H' ol (.lst [])) p (.lst (refs L3)) = HS at atO atP pw3 sm3 ⊢
      refine for_list (K := K) (a := p) (xs := refs L3) (fun i σ H' => ∃ (os : List Sam.Wd) (y2 y3 y4 y5 y7 y8 : Option V), σ = [some (.ref hh), some (.ref wl), y2, y3, y4, y5, some (.ref ol), y7, y8] ∧ (∀ b o, b ≠ ol → HS b = some o → H' b = some o) ∧ Same H H' ∧ H' ol = some (.lst (strsV os)) ∧ os.Pairwise Sam.slx ∧ os.length ≤ i ∧
        (∀ w, w ∈ os ↔ w ∈ (L3.take i).map fun q => TL.tl q.2.2) ∧ ∀ j (hj : j < L3.length), j + 1 = i → ∃ n : os ≠ [], os.getLast n = TL.tl L3[j].2.2)
        ⟨[], y2, y3, y4, y5, none, none, rfl, (fun b o _ h => h), sm3, atO, List.Pairwise.nil, Nat.le_refl _, (fun w => ⟨(fun m => nomatch m), fun m => by simp at m⟩), fun j hj e => by omega⟩ (fun i σ H' _ hW => ?_) (fun i x σ H' hx hW => ?_) (fun σ H' hW => ?_)
      · obtain ⟨os, y2, y3, y4, y5, y7, y8, rfl, b, _⟩ := hW
        exact SqL.of (b _ _ pol atP)
      · obtain ⟨os, y2, y3, y4, y5, y7, y8, rfl, bO, smH, ato, sos, osl, mos, los⟩ := hW
        have hi : i < L3.length := by
          have := (List.getElem?_eq_some_iff.mp hx).1
          omega
        have et : L3[i]? = some L3[i] := List.getElem?_eq_getElem hi
        have tm := List.getElem_mem hi
        have ord : ∀ j (hj : j < L3.length), j < i → ¬ Sam.slx (TL.tl L3[i].2.2) (TL.tl L3[j].2.2) := fun j hj hji => order j i hj hi hji
        have etk : ∀ k (hk : k < L3.length), k + 1 = i + 1 → TL.tl L3[k].2.2 = TL.tl L3[i].2.2 := fun k hk e => by
          have : k = i := by omega
          subst this
          rfl
        generalize L3[i] = t at et tm ord etk
        unfold refs at hx
        rw [List.getElem?_map, et] at hx
        have hx := Option.some.inj hx
        subst hx
        have tk : (L3.take (i + 1)).map (fun q => TL.tl q.2.2) = (L3.take i).map (fun q => TL.tl q.2.2) ++ [TL.tl t.2.2] := by rw [List.take_add_one, et, List.map_append]; rfl
        have ht3 : SqT K H' t.1 [.int t.2.1, .str t.2.2] := by
          rcases pw3 t tm with (h | ⟨o, h⟩) | h
          · exact .inl (.inl (bO _ _ (fun z => by have := atO; rw [← z, h] at this; cases this) h))
          · exact .inl (.inr ⟨o, bO _ _ (fun z => by have := atO; rw [← z, h] at this; cases this) h⟩)
          · exact .inr h
        refine ⟨_, _, rfl, ht3, rfl, _, _, rfl, _, _, rfl, rfl, ?_⟩
        have add : (∀ x ∈ os, Sam.slx x (TL.tl t.2.2)) → ∃ (os' : List Sam.Wd) (y2' y3' y4' y5' y7' y8' : Option V), [some (V.ref hh), some (V.ref wl), y2, y3, y4, y5, some (V.ref ol), some (V.int t.2.1), some (V.str t.2.2)] = [some (.ref hh), some (.ref wl), y2', y3', y4', y5', some (.ref ol), y7', y8'] ∧ (∀ b o, b ≠ ol → HS b = some o → (upd H' ol (.lst (strsV os ++ [.str t.2.2]))) b = some o) ∧ Same H (upd H' ol (.lst (strsV os ++ [.str t.2.2]))) ∧ (upd H' ol (.lst (strsV os ++ [.str t.2.2]))) ol = some (.lst (strsV os')) ∧ os'.Pairwise Sam.slx ∧ os'.length ≤ i + 1 ∧
            (∀ w, w ∈ os' ↔ w ∈ (L3.take (i + 1)).map fun q => TL.tl q.2.2) ∧ ∀ j (hj : j < L3.length), j + 1 = i + 1 → ∃ n : os' ≠ [], os'.getLast n = TL.tl L3[j].2.2 := fun h => by
          refine ⟨os ++ [TL.tl t.2.2], _, _, _, _, _, _, rfl, fun b o n e => by rw [upd_ne n]; exact bO b o n e, same_mut smH nol0, ?_, ?_, by rw [List.length_append]; show os.length + 1 ≤ i + 1; omega, fun w => ?_, fun j hj e => ⟨by simp, by rw [etk j hj e]; simp⟩⟩
          · rw [upd_same]
            unfold strsV
            rw [List.map_append]
            show _ = some (HO.lst (_ ++ [V.str (SX.S (TL.tl t.2.2))]))
            rw [str_S]
          · rw [List.pairwise_append]
            exact ⟨sos, by simp, fun x hx y hy => by rw [List.mem_singleton.mp hy]; exact h x hx⟩
          · rw [tk, List.mem_append, List.mem_append, mos]
        have sol : (strsV os).length = os.length := List.length_map ..
        have lt2 : (strsV os).length < sizeLine := szB (by rw [sol]; omega)
        refine ⟨_, rfl, ol, _, rfl, .inl (SqL.of ato), rfl, _, rfl, ite2 (fun e => ?_) (fun e => ?_)⟩
        · have o0 : os = [] := by
            have := V.int.inj (of_decide_eq_true e)
            rw [sol] at this
            exact List.eq_nil_of_length_eq_zero (by omega)
          refine ⟨_, rfl, .inl ⟨rfl, _, SqL.of ato⟩, _, rfl, ol, _, _, rfl, rfl, ato, lt2, ?_⟩
          exact add fun x hx => by rw [o0] at hx; cases hx
        · have n : os ≠ [] := fun z => e (decide_eq_true (by rw [z]; rfl))
          have i0 : 0 < i := by
            refine Nat.pos_of_ne_zero fun z => ?_
            subst z
            exact n (List.eq_nil_of_length_eq_zero (by omega))
          obtain ⟨_, lo⟩ := los (i - 1) (by omega) (by omega)
          have lastv : atI (strsV os) (-1) = some (.str (SX.S (os.getLast n))) := by
            have n2 : strsV os ≠ [] := fun z => n (List.map_eq_nil_iff.mp z)
            exact atI_end n2 (List.getLast_map (f := fun w => V.str (SX.S w)) n2)
          have nsl := ord (i - 1) (by omega) (by omega)
          rw [← lo] at nsl
          refine ⟨_, rfl, 1, rfl, ol, _, _, _, rfl, rfl, SqL.of ato, lastv, _, rfl, rfl, _, rfl, ite2 (fun e2 => ?_) (fun e2 => ?_)⟩
          · have wne : os.getLast n ≠ TL.tl t.2.2 := fun z => by
              rw [z, str_S] at e2
              simp at e2
            have sl : Sam.slx (os.getLast n) (TL.tl t.2.2) := by
              rcases Sam.slx_tot (os.getLast n) (TL.tl t.2.2) with h | h | h
              · exact h
              · exact absurd h wne
              · exact absurd h nsl
            refine ⟨_, rfl, .inl ⟨rfl, _, SqL.of ato⟩, _, rfl, ol, _, _, rfl, rfl, ato, lt2, ?_⟩
            exact add fun x hx => by
              rcases last_max sos n x hx with z | z
              · rw [z]; exact sl
              · exact Sam.slx_trans z sl
          · have weq : os.getLast n = TL.tl t.2.2 := by
              refine Classical.byContradiction fun z => e2 ?_
              have : ¬ V.str (SX.S (os.getLast n)) = V.str t.2.2 := fun y => z (by
                have := congrArg TL.tl (V.str.inj y)
                exact this)
              show (!decide _) = true
              rw [decide_eq_false this]
              rfl
            refine ⟨os, _, _, _, _, _, _, rfl, bO, smH, ato, sos, by omega, fun w => ?_, fun j hj ej => ⟨n, by rw [weq, etk j hj ej]⟩⟩
            rw [tk, List.mem_append, mos]
            refine ⟨.inl, fun h => h.elim id fun h => ?_⟩
            rw [List.mem_singleton.mp h, ← weq]
            exact (mos _).mp (List.getLast_mem n)
      · obtain ⟨os, y2, y3, y4, y5, y7, y8, rfl, bO, smH, ato, sos, osl, mos, los⟩ := hW
        rw [rl3] at osl mos
        rw [List.take_of_length_le (Nat.le_refl _)] at mos
        refine ⟨_, rfl, q H' ol os smH nol0 ato sos (by omega) fun w => ?_⟩
        rw [mos]
        have e1 : (w ∈ L3.map fun q => TL.tl q.2.2) ↔ (w ∈ L2.map fun q => TL.tl q.2.2) := (perm.map _).mem_iff
        rw [e1, ew, List.mem_flatMap]
        constructor
        · rintro ⟨y, hy, hw⟩
          obtain ⟨h1, h2⟩ := mem_words.mp hw
          exact ⟨h1, y.2, List.mem_map.mpr ⟨y, hy, rfl⟩, h2⟩
        · rintro ⟨h1, t, ht, h2⟩
          obtain ⟨y, hy, rfl⟩ := List.mem_map.mp ht
          exact ⟨y, hy, mem_words.mpr ⟨h1, h2⟩⟩
end

end SH
set_option linter.all false
/-! there are such classes, for any texts -/
namespace Sam
theorem inv_letters {D : List Wd} : ∀ (r p : Wd) {g : G} {rep : Nat → Wd} {s : Nat}, Inv (LC (D ++ [p])) g rep → s < g.n → rep s = p → ∃ g' rep', Inv (LC (D ++ [p ++ r])) g' rep'
  | [], p, g, rep, _, I, _, _ => ⟨g, rep, by rw [List.append_nil]; exact I⟩
  | c :: r, p, _, _, _, I, hs, e => by
    obtain ⟨rep2, I2, n2, w2, _, _⟩ := after_ok I (grow_of D p c) hs e
    obtain ⟨g', rep', h⟩ := inv_letters r (p ++ [c]) I2 n2 w2
    exact ⟨g', rep', by rw [List.append_assoc] at h; exact h⟩
theorem inv_texts : ∀ (ts D : List Wd) {g : G} {rep : Nat → Wd}, D ≠ [] → Inv (LC D) g rep → ∃ g' rep', Inv (LC (D ++ ts)) g' rep'
  | [], D, g, rep, _, I => ⟨g, rep, by rw [List.append_nil]; exact I⟩
  | t :: ts, D, _, _, h, I => by
    have I0 := I
    rw [← lc_text h] at I0
    obtain ⟨g1, r1, I1⟩ := inv_letters t [] I0 I0.n0 I0.r0
    rw [List.nil_append] at I1
    obtain ⟨g2, r2, I2⟩ := inv_texts ts (D ++ [t]) (by simp) I1
    exact ⟨g2, r2, by rw [List.append_assoc] at I2; exact I2⟩
theorem inv_ex (hs : List (Int × Wd)) : ∃ g rep, Inv (LC (txs hs)) g rep := by
  have h := inv_texts (hs.map fun q => q.2) [[]] (by simp) inv_start
  exact h
theorem fin_ex (hs : List (Int × Wd)) : ∃ g rep, Fin (txs hs) g rep := by
  obtain ⟨g, rep, I⟩ := inv_ex hs
  let le : Nat → Nat → Bool := fun a b => @decide (¬ slx (mw g rep b) (mw g rep a)) (Classical.propDecidable _)
  have led : ∀ a b, le a b = true ↔ ¬ slx (mw g rep b) (mw g rep a) := fun a b => @decide_eq_true_iff _ (Classical.propDecidable _)
  have srt := List.pairwise_mergeSort (le := le) (fun a b c h1 h2 => by
    rw [led] at h1 h2 ⊢
    intro h3
    rcases slx_tot (mw g rep b) (mw g rep c) with h | h | h
    · exact h1 (slx_trans h h3)
    · exact h1 (h ▸ h3)
    · exact h2 h) (fun a b => by
    rw [Bool.or_eq_true, led, led]
    rcases slx_tot (mw g rep a) (mw g rep b) with h | h | h
    · exact .inl fun z => slx_irr (slx_trans h z)
    · exact .inl fun z => slx_irr (h ▸ z)
    · exact .inr fun z => slx_irr (slx_trans h z)) (List.range g.n)
  have pm := List.mergeSort_perm (List.range g.n) le
  generalize (List.range g.n).mergeSort le = os at srt pm
  have nd : os.Nodup := pm.nodup_iff.mpr List.nodup_range
  have lt : ∀ x ∈ os, x < g.n := fun x hx => List.mem_range.mp (pm.mem_iff.mp hx)
  have full : ∀ x, x < g.n → x ∈ os := fun x hx => pm.mem_iff.mpr (List.mem_range.mpr hx)
  have so : os.Pairwise (fun a b => slx (mw g rep a) (mw g rep b)) := by
    refine List.Pairwise.imp_of_mem (fun {a b} ha hb h => ?_) (srt.and nd)
    obtain ⟨h1, h2⟩ := h
    rw [led] at h1
    rcases slx_tot (mw g rep a) (mw g rep b) with h | h | h
    · exact h
    · exact absurd (I.mw_inj (lt a ha) (lt b hb) h) h2
    · exact absurd h h1
  have h0 : os.getD 0 0 = 0 := by
    cases e : os with
    | nil => rfl
    | cons x r =>
      show x = 0
      have m0 := full 0 I.n0
      rw [e] at m0 so
      rcases List.mem_cons.mp m0 with z | z
      · exact z.symm
      · have := (List.pairwise_cons.mp so).1 0 z
        rw [I.mw_zero] at this
        rcases this with q | ⟨_, q⟩
        · exact absurd q (Nat.not_lt_zero _)
        · exact absurd q (List.not_lt_nil _)
  refine ⟨_, _, I.reorder nd lt full h0, fun i j hij hj => ?_⟩
  have hj : j < g.n := hj
  have hl := re_len nd lt full
  rw [I.re_mw nd lt full (by omega), I.re_mw nd lt full hj]
  have h1 : i < os.length := by omega
  have h2 : j < os.length := by omega
  have := List.pairwise_iff_getElem.mp so i j h1 h2 hij
  rw [List.getD_eq_getElem?_getD, List.getD_eq_getElem?_getD, List.getElem?_eq_getElem h1, List.getElem?_eq_getElem h2]
  exact this
end Sam
set_option Elab.async false
set_option linter.all false
set_option maxRecDepth 100000
set_option maxHeartbeats 4000000
namespace SH
open PySem PySem.Spec PyProof.Rows L2
/-! lists of places as data -/
def dPt (q : Int × Nat) : PyData := .tuple [.int q.1, .int (q.2 : Int)]
def dPts (ps : List (Int × Nat)) : PyData := .list (ps.map dPt)
theorem dp_ptsAll {K : PySem.W.Frag} {H : Hp} : ∀ {R : PT}, PAt H R → DpAll K H (prefs R) ((R.map (·.2)).map dPt)
  | [], _ => .nil
  | q :: r, h => .cons (.tup (.inl (.inl (h q (List.mem_cons_self ..)))) (.cons (.int _) (.cons (.int _) .nil))) (dp_ptsAll fun x m => h x (List.mem_cons_of_mem _ m))
theorem dp_pts {K : PySem.W.Frag} {H : Hp} {l : Addr} {R : PT} (h : H l = some (.lst (prefs R))) (h2 : PAt H R) : Dp K H (.ref l) (dPts (R.map (·.2))) := .lst (SqL.of h) (dp_ptsAll h2)
theorem dPts_lay : ∀ ps : List (Int × Nat), PyData.canLayAll0 (ps.map dPt) = true
  | [] => rfl
  | q :: r => by
    rw [List.map_cons, PyData.canLayAll0, dPts_lay r]
    rfl
theorem dPts_deep : ∀ ps : List (Int × Nat), PyData.depthAll (ps.map dPt) ≤ 1
  | [] => Nat.zero_le _
  | q :: r => by
    rw [List.map_cons, PyData.depthAll]
    have := dPts_deep r
    have e : PyData.depth (dPt q) = 1 := rfl
    rw [e]
    omega
theorem dPts_shaped (ps : List (Int × Nat)) : SeqAt.shaped (dPts ps) = true := by
  unfold SeqAt.shaped
  have e1 : (dPts ps).canLay0 = true := dPts_lay ps
  have e2 : (dPts ps).depth ≤ 64 := by
    show PyData.depthAll (ps.map dPt) + 1 ≤ 64
    have := dPts_deep ps
    omega
  rw [e1, decide_eq_true e2]
  rfl
theorem dPt_eqv (p q : Int × Nat) : PyData.eqv (dPt p) (dPt q) = decide (p = q) := by
  show ((p.1 == q.1) && (((p.2 : Int) == (q.2 : Int)) && true)) = decide (p = q)
  obtain ⟨a, b⟩ := p
  obtain ⟨c, d⟩ := q
  refine Bool.eq_iff_iff.mpr ?_
  simp only [Bool.and_true, Bool.and_eq_true, beq_iff_eq, decide_eq_true_eq, Prod.mk.injEq]
  omega
theorem dPts_eqvAll : ∀ ps qs : List (Int × Nat), PyData.eqvAll (ps.map dPt) (qs.map dPt) = decide (ps = qs)
  | [], [] => rfl
  | [], q :: s => rfl
  | p :: r, [] => rfl
  | p :: r, q :: s => by
    show (PyData.eqv (dPt p) (dPt q) && PyData.eqvAll (r.map dPt) (s.map dPt)) = _
    rw [dPt_eqv, dPts_eqvAll r s]
    refine Bool.eq_iff_iff.mpr ?_
    simp
theorem dPts_eqv (ps qs : List (Int × Nat)) : PyData.eqv (dPts ps) (dPts qs) = decide (ps = qs) := dPts_eqvAll ps qs
/-! rows of classes -/
abbrev RT := List (Addr × Sam.Wd × Sam.Wd × Addr × PT)
def rrefs (T : RT) : List V := T.map fun q => .ref q.1
def RAt (H : Hp) (T : RT) : Prop := ∀ q ∈ T, H q.1 = some (.tup [.str (SX.S q.2.1), .str (SX.S q.2.2.1), .ref q.2.2.2.1]) ∧ H q.2.2.2.1 = some (.lst (prefs q.2.2.2.2)) ∧ PAt H q.2.2.2.2
theorem RAt.same {H H' : Hp} {T : RT} (h : RAt H T) (s : Same H H') : RAt H' T := fun q m => ⟨s _ _ (h q m).1, s _ _ (h q m).2.1, (h q m).2.2.same s⟩
def rowsOf (T : RT) : List (Sam.Wd × Sam.Wd × List (Int × Nat)) := T.map fun q => (q.2.1, q.2.2.1, q.2.2.2.2.map (·.2))
theorem rrefs_len (T : RT) : (rrefs T).length = T.length := List.length_map ..
theorem rowsOf_len (T : RT) : (rowsOf T).length = T.length := List.length_map ..
theorem rrefs_at {T : RT} {k : Nat} {q : Addr × Sam.Wd × Sam.Wd × Addr × PT} (h : T[k]? = some q) : atI (rrefs T) (k : Int) = some (.ref q.1) := atI_nat (by unfold rrefs; rw [List.getElem?_map, h]; rfl)
/-- a row's list is apart from one that is new -/
theorem RAt.setL {H : Hp} {T : RT} (h : RAt H T) {r : Addr} {xs ys : List V} (e : H r = some (.lst xs)) (n : ∀ q ∈ T, q.2.2.2.1 ≠ r) : RAt (upd H r (.lst ys)) T := fun q m => by
  obtain ⟨h1, h2, h3⟩ := h q m
  exact ⟨by rw [upd_ne (fun z => by rw [z, e] at h1; cases h1)]; exact h1, by rw [upd_ne (n q m)]; exact h2, h3.setL e⟩
theorem filter_one (k : Nat) : ∀ n : Nat, (List.range n).filter (fun j => decide (j = k)) = if k < n then [k] else []
  | 0 => rfl
  | n + 1 => by
    rw [List.range_succ, List.filter_append, filter_one k n]
    by_cases h : k < n
    · rw [if_pos h, if_pos (by omega), List.filter_cons_of_neg (by simp; omega)]
      rfl
    · rw [if_neg h]
      by_cases e : n = k
      · subst e
        rw [if_pos (by omega), List.filter_cons_of_pos (by simp)]
        rfl
      · rw [if_neg (by omega), List.filter_cons_of_neg (by simpa using e)]
        rfl
section
variable {P : Program} {w : World} {K : PySem.W.Frag} {mg : Str → Option Value} {base : Heap} {ea : Ea}
def spClasses (K : PySem.W.Frag) : Sp := fun vs H Q _ => ∃ (h : Addr) (L : PL), vs = [.ref h] ∧ HsAt K H h L ∧ HouseOk L ∧
  (L = [] → ∀ H' l, Same H H' → H l = none → H' l = some (.lst []) → Q (.ref l) H') ∧
  (L ≠ [] → ∃ g rep, Sam.Fin (Sam.txs (hsOf L)) g rep ∧ ∀ H' l T, Same H H' → H l = none → H' l = some (.lst (rrefs T)) → RAt H' T → rowsOf T = (List.range g.n).map (fun k => (Sam.mw g rep k, rep k, Sam.plc (hsOf L) (rep k))) → T.length ≤ 20001 → Q (.ref l) H')
theorem sc__law_classes : FnScope ["house", "rows", "word", "pairs", "same", "k"] ["house"] (defScope s__law_classes) := ⟨rfl, rfl, rfl, by decide +kernel, rfl, by decide +kernel, by decide +kernel⟩
theorem ok__law_classes (T : Txt K mg ea) (c__law_words : Cl P w K mg base 1 "_law_words" (spWords K)) (c__law_ends : Cl P w K mg base 2 "_law_ends" (spEnds K)) : Cl P w K mg base 3 "_law_classes" (spClasses K) := by
  have nd := sc__law_classes.nd
  refine cl_of T.d__law_classes sc__law_classes (fun vs H Q E h => ?_) (fun f cdv A outer s0 H vs Q E hr h => ?_)
  · obtain ⟨hh, L, rfl, _⟩ := h
    rfl
  · obtain ⟨hh, L, rfl, hA, ok, q1, q2⟩ := h
    refine ⟨_, (pss_cons (ps_if (pt_cmpR op_eq (pe_callB call_len_seq (by rfl) T.b_len PySem.boot_len (pa_cons (pv 0) pa_nil)) pe_int (nomark _))
        (pss_one (ps_ret (pe_lst pa_nil)))
        pss_nil)
      (pss_cons (ps_set (i := 1) nd rfl (.inr rfl) (pe_lst pa_nil))
      (pss_cons (ps_for PassesOwn.never rfl (pi_listK (K := K) (pe_op op_cat (pe_lst (pa_cons pe_str pa_nil)) (C8.pe_c c__law_words hr (by decide) (by rfl) (pa_cons (pv 0) pa_nil)))) (pg_name (i := 2) nd rfl (.inl rfl))
        (pss_cons (ps_set (i := 3) nd rfl (.inr rfl) (C8.pe_c c__law_ends hr (by decide) (by rfl) (pa_cons (pv 0) (pa_cons (pv 2) pa_nil))))
          (pss_cons (ps_setLc (i := 4) (own := [("k", 5)]) (g := (gName 5)) rfl nd rfl rfl (sw_true rfl rfl rfl (by decide +kernel)) (pi_range1 rfl T.b_range (pa_cons (pe_callB call_len_seq (by rfl) T.b_len PySem.boot_len (pa_cons (pv 1) pa_nil)) pa_nil)) (blkOk_by (own := [("k", 5)]) (N := ["house", "rows", "word", "pairs", "same", "k"]) (sc := defScope s__law_classes) (by decide +kernel)) (fun _ _ _ _ _ => (pg_name (i := 5) nd rfl (.inl rfl))) (fun _ _ _ _ _ => pts_one (pt_cmpR (op_eqDK (K := K) hr.units) (pe_ix (ixt (K := K)) (pe_ix (ixl (K := K)) (pv 1) (pv 5) (fun _ _ => rfl)) pe_int (fun _ _ => rfl)) (pv 3) (nomark _))) (fun _ _ _ _ _ => (pv 5)))
          (pss_one (ps_if (pt_cmpR op_gt (pe_callB call_len_seq (by rfl) T.b_len PySem.boot_len (pa_cons (pv 4) pa_nil)) pe_int (nomark _))
            (pss_one (ps_asg (pe_tup (pa_cons (pe_ix (ixt (K := K)) (pe_ix (ixl (K := K)) (pv 1) (pe_ix (ixl (K := K)) (pv 4) pe_int (fun _ _ => rfl)) (fun _ _ => rfl)) pe_int (fun _ _ => rfl)) (pa_cons (pv 2) (pa_cons (pv 3) pa_nil)))) (pg_sub (pv 1) (pe_ix (ixl (K := K)) (pv 4) pe_int (fun _ _ => rfl)) set_list)))
            (pss_one (ps_expr (pe_bm PySem.F.plainAttrs_list PySem.F.slot_list_append PySem.F.type_list_append mt_append (pv 1) (pa_cons (pe_tup (pa_cons (pv 2) (pa_cons (pv 2) (pa_cons (pv 3) pa_nil)))) pa_nil)))))))))
      (pss_one (ps_ret (pv 1)))))), ?_⟩
    have rl : (refs L).length = L.length := List.length_map ..
    have sz : ∀ {n : Nat}, n ≤ 1000 → n ≤ sizeLine := fun h => Nat.le_trans h (by decide)
    refine ⟨_, rfl, hh, _, rfl, .inl hA.1, rfl, _, rfl, ite2 (fun e => ?_) (fun e => ?_)⟩
    · have hl0 : L = [] := by
        have := V.int.inj (of_decide_eq_true e)
        rw [rl] at this
        exact List.eq_nil_of_length_eq_zero (by omega)
      exact ⟨Nat.zero_le _, fun l nl => q1 hl0 _ l (same_new nl) nl upd_same⟩
    have hl0 : L ≠ [] := fun z => e (decide_eq_true (by rw [z]; rfl))
    obtain ⟨g, rep, F, q⟩ := q2 hl0
    have hs0 : hsOf L ≠ [] := fun z => hl0 (List.map_eq_nil_iff.mp z)
    have asc : ((hsOf L).map (·.1)).Pairwise (· < ·) := by
      have := ok.asc
      unfold hsOf
      rw [List.map_map]
      exact this
    have few := ok.few
    have t40 : ∀ q ∈ L, q.2.2.length ≤ 40 := fun q hq => (ok.txt q hq).2
    refine ⟨Nat.zero_le _, fun rw' nrw => ?_⟩
    have s1 := same_new (o := .lst []) nrw
    -- the words
    refine ⟨(by show 1 ≤ sizeLine; decide), fun el nel => ?_⟩
    have s2 := s1.trans (same_new (o := .lst [.str ""]) nel)
    have rwel : rw' ≠ el := fun z => by rw [← z, upd_same] at nel; cases nel
    refine ⟨_, rfl, hh, L, rfl, hA.same s2, few, t40, fun H3 wl ws s3 nwl atw sW wsl mW => ?_⟩
    have atel : H3 el = some (.lst [.str ""]) := s3 _ _ upd_same
    refine ⟨el, wl, _, _, rfl, rfl, atel, atw, Nat.le_of_lt (szB (by unfold strsV; rw [List.length_map]; show 1 + _ ≤ _; omega)), fun cl ncl => ?_⟩
    have eW : [V.str ""] ++ strsV ws = strsV ([] :: ws) := rfl
    rw [eW]
    have s4 := (s2.trans s3).trans (same_new (o := .lst (strsV ([] :: ws))) ncl)
    have sW' : ([] :: ws : List Sam.Wd).Pairwise Sam.slx := by
      rw [List.pairwise_cons]
      refine ⟨fun w hw => .inl ?_, sW⟩
      have := ((mW w).mp hw).1
      exact Nat.pos_of_ne_zero fun z => this (List.eq_nil_of_length_eq_zero z)
    have mW' : ∀ w, w ∈ ([] :: ws : List Sam.Wd) ↔ Sam.Inner (Sam.txs (hsOf L)) w := fun w => by
      rw [List.mem_cons, mW]
      constructor
      · rintro (rfl | ⟨_, t, ht, x, y, e⟩)
        · exact ⟨[], List.mem_cons_self .., [], [], rfl⟩
        · exact ⟨t, List.mem_cons_of_mem _ ht, x, y, e⟩
      · rintro ⟨t, ht, x, y, e⟩
        by_cases hw : w = []
        · exact .inl hw
        · refine .inr ⟨hw, ?_⟩
          rcases List.mem_cons.mp ht with z | m
          · rw [z] at e
            have := congrArg List.length e
            simp at this
            exact absurd (List.eq_nil_of_length_eq_zero (by omega)) hw
          · exact ⟨t, m, x, y, e⟩
    have wlen : ∀ w ∈ ([] :: ws : List Sam.Wd), w.length ≤ 40 := fun w hw => by
      refine inner_len (fun x hx => ?_) ((mW' w).mp hw)
      rcases List.mem_cons.mp hx with z | m
      · rw [z]; exact Nat.zero_le _
      · obtain ⟨y, hy, rfl⟩ := List.mem_map.mp m
        obtain ⟨t, ht, rfl⟩ := List.mem_map.mp hy
        show (TL.tl t.2.2).length ≤ 40
        rw [← TL.len_tl]
        exact t40 t ht
    have Wl : ([] :: ws : List Sam.Wd).length ≤ 20001 := by rw [List.length_cons]; omega
    generalize ([] :: ws : List Sam.Wd) = W at *
    have atr : H3 rw' = some (.lst []) := s3 _ _ (by rw [upd_ne rwel, upd_same])
    have atr4 : (upd H3 cl (.lst (strsV W))) rw' = some (.lst []) := by rw [upd_ne (fun z => by rw [← z, atr] at ncl; cases ncl)]; exact atr
    have atc4 : (upd H3 cl (.lst (strsV W))) cl = some (.lst (strsV W)) := upd_same
    generalize upd H3 cl (.lst (strsV W)) = H4 at s4 atr4 atc4 ⊢
    refine ⟨cl, rfl, ⟨_, SqL.of atc4⟩, ?_⟩
    have strl : (strsV W).length = W.length := List.length_map ..
    have clrw : cl ≠ rw' := fun z => by
      rw [z, atr4] at atc4
      have := congrArg List.length (HO.lst.inj (Option.some.inj atc4))
      rw [strl] at this
      have m : ([] : Sam.Wd) ∈ W := (mW' []).mpr ⟨[], List.mem_cons_self .., [], [], rfl⟩
      rw [List.eq_nil_of_length_eq_zero this.symm] at m
      cases m
    refine for_list (K := K) (a := cl) (xs := strsV W) (fun i σ H' => ∃ (R : RT) (y2 y3 y4 : Option V), σ = [some (.ref hh), some (.ref rw'), y2, y3, y4, none] ∧ Same H H' ∧ H' cl = some (.lst (strsV W)) ∧ H' rw' = some (.lst (rrefs R)) ∧ RAt H' R ∧ (∀ q ∈ R, q.2.2.2.1 ≠ rw') ∧ Sam.Cls (hsOf L) g rep W i (rowsOf R) ∧ R.length ≤ i)
      ⟨[], none, none, none, rfl, s4, atc4, atr4, (fun q m => nomatch m), (fun q m => nomatch m), Sam.cls_start F, Nat.le_refl _⟩ (fun i σ H' _ hW => ?_) (fun i x σ H' hx hW => ?_) (fun σ H' hW => ?_)
    · obtain ⟨R, y2, y3, y4, rfl, _, h1, _⟩ := hW
      exact SqL.of h1
    · obtain ⟨R, y2, y3, y4, rfl, sm, atc, atR, rR, nR, C, Rl⟩ := hW
      have iW : i < W.length := by
        have := (List.getElem?_eq_some_iff.mp hx).1
        omega
      have ew : W[i]? = some W[i] := List.getElem?_eq_getElem iW
      have wm := List.mem_of_getElem? ew
      generalize W[i] = v at ew wm
      unfold strsV at hx
      rw [List.getElem?_map, ew] at hx
      have hx := Option.some.inj hx
      subst hx
      have v40 := wlen v wm
      have tv : TL.tl (SX.S v) = v := TL.tl_mk v
      have lv : (SX.S v).length ≤ 1000 := by rw [TL.len_tl, tv]; omega
      refine ⟨_, rfl, _, rfl, hh, L, SX.S v, rfl, hA.same sm, few, t40, lv, fun H5 pl Rp s5 npl atp pP eP => ?_⟩
      rw [tv] at eP
      have sm5 := sm.trans s5
      have atR5 := s5 _ _ atR
      have rR5 := rR.same s5
      obtain ⟨k0, k0n, ek0, cs1, cs2⟩ := C.step hs0 asc F sW' mW' ew
      have rlen : (rrefs R).length = R.length := rrefs_len R
      -- the rows with the same places
      refine ⟨_, rfl, rw', _, rfl, .inl (SqL.of atR5), _, rfl, by rw [rlen]; omega, by rw [rlen]; omega, fun D nD => ?_⟩
      have en : ((rrefs R).length : Int).toNat = R.length := by rw [rlen]; omega
      refine lc_w (walk_range (lo := 0) (n := ((rrefs R).length : Int).toNat)) nD (by omega) (fun _ _ => trivial) (fun j acc _ => acc = natV ((List.range j).filter fun x => decide (x = k0))) (fun _ _ => rfl) (fun _ _ _ _ _ _ _ r => r) (fun i H x H' y => by rw [y.1]; exact Same.refl _)
        (fun j x acc HA HB Qn Qf hj sm2 y r at_ kn kf => ?_) (fun acc HA smA atD _ rD => ?_)
      · obtain ⟨rfl, rfl⟩ := y
        rw [en] at hj
        have ej : (0 : Int) + (j : Int) = (j : Int) := by omega
        have eR : R[j]? = some R[j] := List.getElem?_eq_getElem hj
        have mR := List.mem_of_getElem? eR
        generalize hq : R[j] = q' at eR mR
        obtain ⟨h1, h2, h3⟩ := rR5.same sm2 q' mR
        obtain ⟨lw, c1, _⟩ := C.row j (by rw [rowsOf_len]; exact hj)
        have c1' : (rowsOf R)[j]? = some (q'.2.1, q'.2.2.1, q'.2.2.2.2.map (·.2)) := by unfold rowsOf; rw [List.getElem?_map, eR]; rfl
        rw [c1'] at c1
        have eP' : q'.2.2.2.2.map (·.2) = Sam.plc (hsOf L) (rep j) := by
          have := Option.some.inj c1
          exact congrArg (fun z => z.2.2) this
        have jn : j < g.n := by have := C.le; rw [rowsOf_len] at this; omega
        have ec := Sam.plc_cls hs0 asc F jn k0n ek0
        have at2 : atI [V.str (SX.S q'.2.1), V.str (SX.S q'.2.2.1), V.ref q'.2.2.2.1] 2 = some (.ref q'.2.2.2.1) := rfl
        refine ⟨rfl, _, rfl, _, rfl, rw', _, _, _, rfl, rfl, SqL.of (sm2 _ _ atR5), by rw [ej]; exact rrefs_at eR, q'.1, _, _, _, rfl, rfl, .inl (.inl h1), at2, _, rfl, dPts (q'.2.2.2.2.map (·.2)), dPts (Rp.map (·.2)), dp_pts h2 h3, dp_pts (sm2 _ _ atp) (pP.same sm2), dPts_shaped _, dPts_shaped _, ?_⟩
        rw [dPts_eqv, eP', eP]
        have flt : ((List.range (j + 1)).filter fun x => decide (x = k0)) = ((List.range j).filter fun x => decide (x = k0)) ++ (if j = k0 then [j] else []) := by
          rw [List.range_succ, List.filter_append]
          congr 1
          by_cases c : j = k0
          · subst c; rw [if_pos rfl, List.filter_cons_of_pos (by simp)]; rfl
          · rw [if_neg c, List.filter_cons_of_neg (by simpa using c)]; rfl
        refine ⟨_, rfl, ?_⟩
        by_cases c : j = k0
        · rw [decide_eq_true (ec.mpr c)]
          refine ⟨_, rfl, kn _ _ (Same.refl _) ?_⟩
          rw [r, flt, if_pos c, natV_app]
          show _ ++ [V.int (0 + (j : Int))] = _
          rw [ej]
          rfl
        · rw [decide_eq_false (fun z => c (ec.mp z))]
          refine kf _ (Same.refl _) ?_
          rw [r, flt, if_neg c, List.append_nil]
      rw [en, filter_one] at rD
      have smH := sm5.trans smA
      have atRA := smA _ _ atR5
      have rRA := rR5.same smA
      by_cases c : k0 < R.length
      · rw [if_pos c] at rD
        subst rD
        refine ⟨_, rfl, D, _, rfl, .inl (SqL.of atD), _, _, rfl, rfl, _, rfl, iteT ?_⟩
        have eR : R[k0]? = some R[k0] := List.getElem?_eq_getElem c
        have mR := List.mem_of_getElem? eR
        generalize R[k0] = q' at eR mR
        obtain ⟨h1, h2, h3⟩ := rRA q' mR
        have at0 : atI (natV [k0]) 0 = some (.int (k0 : Int)) := rfl
        have at00 : atI [V.str (SX.S q'.2.1), V.str (SX.S q'.2.2.1), V.ref q'.2.2.2.1] 0 = some (.str (SX.S q'.2.1)) := rfl
        refine ⟨_, rfl, _, rfl, D, _, _, _, rfl, rfl, SqL.of atD, at0, rw', _, _, _, rfl, rfl, SqL.of atRA, rrefs_at eR, q'.1, _, _, _, rfl, rfl, .inl (.inl h1), at00, _, rfl, _, rfl, (by show 3 ≤ sizeLine; decide), fun t nt => ?_⟩
        have s8 := same_new (o := .tup [.str (SX.S q'.2.1), .str (SX.S v), .ref pl]) nt
        have trw : t ≠ rw' := fun z => by rw [z, atRA] at nt; cases nt
        refine ⟨_, rfl, _, rfl, D, _, _, _, rfl, rfl, SqL.of (s8 _ _ atD), at0, rw', _, _, k0, rfl, rfl, s8 _ _ atRA, ixN_nat (by rw [rrefs_len]; exact c), ?_⟩
        have sF := same_mut (o := .lst ((rrefs R).set k0 (.ref t))) (smH.trans s8) nrw
        have eset : (rrefs R).set k0 (.ref t) = rrefs (R.set k0 (t, q'.2.1, v, pl, Rp)) := by unfold rrefs; rw [List.map_set]
        have plrw : pl ≠ rw' := fun z => by rw [z, atR] at npl; cases npl
        have nR2 : ∀ q ∈ R.set k0 (t, q'.2.1, v, pl, Rp), q.2.2.2.1 ≠ rw' := fun q hq => by
          rcases List.mem_or_eq_of_mem_set hq with m | e
          · exact nR q m
          · rw [e]; exact plrw
        refine ⟨_, _, _, _, rfl, sF, ?_, ?_, ?_, nR2, ?_, ?_⟩
        · rw [upd_ne clrw]; exact s8 _ _ (smA _ _ (s5 _ _ atc))
        · rw [upd_same, eset]
        · intro q hq
          have base2 : ∀ q ∈ R.set k0 (t, q'.2.1, v, pl, Rp), (upd HA t (.tup [.str (SX.S q'.2.1), .str (SX.S v), .ref pl])) q.1 = some (.tup [.str (SX.S q.2.1), .str (SX.S q.2.2.1), .ref q.2.2.2.1]) ∧ (upd HA t (.tup [.str (SX.S q'.2.1), .str (SX.S v), .ref pl])) q.2.2.2.1 = some (.lst (prefs q.2.2.2.2)) ∧ PAt (upd HA t (.tup [.str (SX.S q'.2.1), .str (SX.S v), .ref pl])) q.2.2.2.2 := fun q hq => by
            rcases List.mem_or_eq_of_mem_set hq with m | e
            · exact rRA.same s8 q m
            · rw [e]; exact ⟨upd_same, s8 _ _ (smA _ _ atp), (pP.same smA).same s8⟩
          exact RAt.setL base2 (s8 _ _ atRA) nR2 q hq
        · have := cs1 (by rw [rowsOf_len]; exact c)
          have e5 : rowsOf (R.set k0 (t, q'.2.1, v, pl, Rp)) = (rowsOf R).set k0 (Sam.mw g rep k0, v, Sam.plc (hsOf L) v) := by
            obtain ⟨lw, c1, _⟩ := C.row k0 (by rw [rowsOf_len]; exact c)
            have c1' : (rowsOf R)[k0]? = some (q'.2.1, q'.2.2.1, q'.2.2.2.2.map (·.2)) := by unfold rowsOf; rw [List.getElem?_map, eR]; rfl
            rw [c1'] at c1
            have e6 : q'.2.1 = Sam.mw g rep k0 := congrArg (fun z => z.1) (Option.some.inj c1)
            unfold rowsOf
            rw [List.map_set, eP, e6]
          rw [e5]
          exact this
        · rw [List.length_set]; omega
      · rw [if_neg c] at rD
        subst rD
        refine ⟨_, rfl, D, _, rfl, .inl (SqL.of atD), _, _, rfl, rfl, _, rfl, iteF ?_⟩
        refine ⟨_, rfl, .inl ⟨rfl, _, SqL.of atRA⟩, _, rfl, _, rfl, _, rfl, (by show 3 ≤ sizeLine; decide), fun t nt => ?_⟩
        have s8 := same_new (o := .tup [.str (SX.S v), .str (SX.S v), .ref pl]) nt
        refine ⟨rw', _, _, rfl, rfl, s8 _ _ atRA, szB (by rw [rrefs_len]; omega), ?_⟩
        have sF := same_mut (o := .lst (rrefs R ++ [.ref t])) (smH.trans s8) nrw
        have eset : rrefs R ++ [.ref t] = rrefs (R ++ [(t, v, v, pl, Rp)]) := by unfold rrefs; rw [List.map_append]; rfl
        have plrw : pl ≠ rw' := fun z => by rw [z, atR] at npl; cases npl
        have nR2 : ∀ q ∈ R ++ [(t, v, v, pl, Rp)], q.2.2.2.1 ≠ rw' := fun q hq => by
          rcases List.mem_append.mp hq with m | m
          · exact nR q m
          · rw [List.mem_singleton.mp m]; exact plrw
        refine ⟨_, _, _, _, rfl, sF, ?_, ?_, ?_, nR2, ?_, ?_⟩
        · rw [upd_ne clrw]; exact s8 _ _ (smA _ _ (s5 _ _ atc))
        · rw [upd_same, eset]
        · intro q hq
          have base2 : RAt (upd HA t (.tup [.str (SX.S v), .str (SX.S v), .ref pl])) (R ++ [(t, v, v, pl, Rp)]) := fun q hq => by
            rcases List.mem_append.mp hq with m | m
            · exact rRA.same s8 q m
            · rw [List.mem_singleton.mp m]; exact ⟨upd_same, s8 _ _ (smA _ _ atp), (pP.same smA).same s8⟩
          exact RAt.setL base2 (s8 _ _ atRA) nR2 q hq
        · obtain ⟨_, _, this⟩ := cs2 (by rw [rowsOf_len]; exact c)
          have e5 : rowsOf (R ++ [(t, v, v, pl, Rp)]) = rowsOf R ++ [(v, v, Sam.plc (hsOf L) v)] := by
            unfold rowsOf
            rw [List.map_append, ← eP]
            rfl
          rw [e5]
          exact this
        · rw [List.length_append]; show _ + 1 ≤ _; omega
    · obtain ⟨R, y2, y3, y4, rfl, sm, atc, atR, rR, nR, C, Rl⟩ := hW
      rw [strl] at C Rl
      exact ⟨_, rfl, q H' rw' R sm nrw atR rR (C.done hs0 asc F sW' mW') (by omega)⟩
end

end SH
set_option Elab.async false
set_option linter.all false
set_option maxRecDepth 100000
set_option maxHeartbeats 4000000
namespace SH
open PySem PySem.Spec PyProof.Rows L2
theorem MRep.putL {kvs : List (Key × V)} {f : Nat → Option Nat} {M : Int → Prop} {last : Nat} (h : MRep kvs f M last) {c : Nat} (hc : c < 127) (j : Nat) : MRep (putK kvs (lkey c) (.int (j : Int))) (fun d => if d = c then some j else f d) M last := by
  refine ⟨nd_put h.nd _ _, ks_put (p := fun k => (∃ c, c < 127 ∧ k = lkey c) ∨ ∃ m : Int, k = .inl m) h.ks (.inl ⟨c, hc, rfl⟩) _, fun d => ?_, fun x => ?_⟩
  · rw [valV_put]
    by_cases e : d = c
    · rw [if_pos (by rw [e]), if_pos e]
      rfl
    · rw [if_neg (fun z => e (lkey_inj z)), if_neg e]
      exact h.vs d
  · rw [valV_put, if_neg (fun z => by cases z)]
    exact h.ms x
theorem MRep.congrF {kvs : List (Key × V)} {f f' : Nat → Option Nat} {M : Int → Prop} {last : Nat} (h : MRep kvs f M last) (e : ∀ c, f c = f' c) : MRep kvs f' M last := ⟨h.nd, h.ks, fun c => by rw [h.vs c, e c], h.ms⟩
theorem MRep.nil (last : Nat) : MRep [] (fun _ => none) (fun _ => False) last := MRep.of DRep.nil last
/-- the letters and the marks behind the first places -/
def SeenL (hs : List (Int × Sam.Wd)) (ps : List (Int × Nat)) (c : Nat) : Prop := ∃ (m : Int) (k : Nat) (t : Sam.Wd), (m, k) ∈ ps ∧ (m, t) ∈ hs ∧ t[k]? = some c
def SeenM (hs : List (Int × Sam.Wd)) (ps : List (Int × Nat)) (m : Int) : Prop := ∃ t : Sam.Wd, (m, t.length) ∈ ps ∧ (m, t) ∈ hs
noncomputable def seenF (hs : List (Int × Sam.Wd)) (ps : List (Int × Nat)) (f : Nat → Option Nat) (c : Nat) : Option Nat := @ite _ (SeenL hs ps c) (Classical.propDecidable _) (f c) none
theorem seenF_yes {hs : List (Int × Sam.Wd)} {ps : List (Int × Nat)} {f : Nat → Option Nat} {c : Nat} (h : SeenL hs ps c) : seenF hs ps f c = f c := @if_pos _ (Classical.propDecidable _) h _ _ _
theorem seenF_no {hs : List (Int × Sam.Wd)} {ps : List (Int × Nat)} {f : Nat → Option Nat} {c : Nat} (h : ¬ SeenL hs ps c) : seenF hs ps f c = none := @if_neg _ (Classical.propDecidable _) h _ _ _
theorem seen_edges {hs : List (Int × Sam.Wd)} {g : Sam.G} {rep : Nat → Sam.Wd} (F : Sam.Fin (Sam.txs hs) g rep) {k : Nat} (hk : k < g.n) (c : Nat) : seenF hs (Sam.plc hs (rep k)) (g.ed k) c = g.ed k c := by
  by_cases h : SeenL hs (Sam.plc hs (rep k)) c
  · exact seenF_yes h
  · rw [seenF_no h]
    refine ((F.inv.ed_none hk).mpr ?_).symm
    rintro ⟨t, ht, x, y, e⟩
    rcases List.mem_cons.mp ht with z | m
    · rw [z] at e
      simp at e
    · obtain ⟨q, hq, rfl⟩ := List.mem_map.mp m
      refine h ⟨q.1, (x ++ rep k).length, q.2, Sam.mem_plc.mpr ⟨q.2, hq, by rw [e]; simp, ⟨x, ?_⟩⟩, hq, ?_⟩
      · rw [e, List.append_assoc x, List.append_assoc (rep k), ← List.append_assoc x, List.take_append_of_le_length (Nat.le_refl _), List.take_length]
      · rw [e, List.append_assoc x, List.append_assoc (rep k), ← List.append_assoc x, List.getElem?_append_right (Nat.le_refl _), Nat.sub_self]
        rfl
theorem seen_marks {hs : List (Int × Sam.Wd)} (asc : (hs.map (·.1)).Pairwise (· < ·)) {rep : Nat → Sam.Wd} (k : Nat) (m : Int) : SeenM hs (Sam.plc hs (rep k)) m ↔ Mk hs rep hs.length k m := by
  constructor
  · rintro ⟨t, h1, h2⟩
    obtain ⟨t', h3, h4, h5⟩ := Sam.mem_plc.mp h1
    have := Sam.uniq_text asc h2 h3
    subst this
    obtain ⟨i, hi, e⟩ := List.getElem_of_mem h2
    rw [List.take_length] at h5
    exact ⟨i, t, hi, by rw [List.getElem?_eq_getElem hi, e], h5⟩
  · rintro ⟨i, t, hi, e, h⟩
    have hm := List.mem_of_getElem? e
    exact ⟨t, Sam.mem_plc.mpr ⟨t, hm, Nat.le_refl _, by rw [List.take_length]; exact h⟩, hm⟩
theorem seenL_snoc {hs : List (Int × Sam.Wd)} (asc : (hs.map (·.1)).Pairwise (· < ·)) {ps : List (Int × Nat)} {m : Int} {k : Nat} {t : Sam.Wd} (ht : (m, t) ∈ hs) (c : Nat) : SeenL hs (ps ++ [(m, k)]) c ↔ SeenL hs ps c ∨ t[k]? = some c := by
  constructor
  · rintro ⟨m', k', t', h1, h2, h3⟩
    rcases List.mem_append.mp h1 with h | h
    · exact .inl ⟨m', k', t', h, h2, h3⟩
    · cases List.mem_singleton.mp h
      rw [Sam.uniq_text asc ht h2]
      exact .inr h3
  · rintro (⟨m', k', t', h1, h2, h3⟩ | h)
    · exact ⟨m', k', t', List.mem_append_left _ h1, h2, h3⟩
    · exact ⟨m, k, t, List.mem_append_right _ (List.mem_singleton.mpr rfl), ht, h⟩
theorem seenM_snoc {hs : List (Int × Sam.Wd)} (asc : (hs.map (·.1)).Pairwise (· < ·)) {ps : List (Int × Nat)} {m : Int} {k : Nat} {t : Sam.Wd} (ht : (m, t) ∈ hs) (x : Int) : SeenM hs (ps ++ [(m, k)]) x ↔ SeenM hs ps x ∨ (x = m ∧ k = t.length) := by
  constructor
  · rintro ⟨t', h1, h2⟩
    rcases List.mem_append.mp h1 with h | h
    · exact .inl ⟨t', h, h2⟩
    · have e := List.mem_singleton.mp h
      have e1 : x = m := congrArg Prod.fst e
      have e2 : t'.length = k := congrArg Prod.snd e
      subst e1
      rw [Sam.uniq_text asc ht h2]
      exact .inr ⟨rfl, e2.symm⟩
  · rintro (⟨t', h1, h2⟩ | ⟨rfl, rfl⟩)
    · exact ⟨t', List.mem_append_left _ h1, h2⟩
    · exact ⟨t, List.mem_append_right _ (List.mem_singleton.mpr rfl), ht⟩
section
variable {P : Program} {w : World} {K : PySem.W.Frag} {mg : Str → Option Value} {base : Heap} {ea : Ea}
/-- rows of all classes -/
structure RowsOk (L : PL) (g : Sam.G) (rep : Nat → Sam.Wd) (R : RT) : Prop where
  fin : Sam.Fin (Sam.txs (hsOf L)) g rep
  eq : rowsOf R = (List.range g.n).map (fun k => (Sam.mw g rep k, rep k, Sam.plc (hsOf L) (rep k)))
  n : g.n ≤ 20001
theorem RowsOk.len {L : PL} {g : Sam.G} {rep : Nat → Sam.Wd} {R : RT} (h : RowsOk L g rep R) : R.length = g.n := by
  have := congrArg List.length h.eq
  rw [rowsOf_len, List.length_map, List.length_range] at this
  exact this
theorem RowsOk.at_ {L : PL} {g : Sam.G} {rep : Nat → Sam.Wd} {R : RT} (h : RowsOk L g rep R) {k : Nat} {q : Addr × Sam.Wd × Sam.Wd × Addr × PT} (e : R[k]? = some q) : k < g.n ∧ q.2.1 = Sam.mw g rep k ∧ q.2.2.1 = rep k ∧ q.2.2.2.2.map (·.2) = Sam.plc (hsOf L) (rep k) := by
  have hk : k < g.n := by rw [← h.len]; exact (List.getElem?_eq_some_iff.mp e).1
  have e1 : (rowsOf R)[k]? = some (q.2.1, q.2.2.1, q.2.2.2.2.map (·.2)) := by unfold rowsOf; rw [List.getElem?_map, e]; rfl
  rw [h.eq, List.getElem?_map, List.getElem?_range hk] at e1
  have e2 := Option.some.inj e1
  exact ⟨hk, (congrArg (fun z => z.1) e2).symm, (congrArg (fun z => z.2.1) e2).symm, (congrArg (fun z => z.2.2) e2).symm⟩
theorem RowsOk.get {L : PL} {g : Sam.G} {rep : Nat → Sam.Wd} {R : RT} (h : RowsOk L g rep R) {k : Nat} (hk : k < g.n) : ∃ q, R[k]? = some q ∧ q ∈ R := by
  have h1 : k < R.length := by rw [h.len]; exact hk
  exact ⟨R[k], List.getElem?_eq_getElem h1, List.getElem_mem h1⟩
def spEdges (K : PySem.W.Frag) : Sp := fun vs H Q _ => ∃ (h rw' : Addr) (L : PL) (g : Sam.G) (rep : Nat → Sam.Wd) (R : RT), vs = [.ref h, .ref rw'] ∧ HsAt K H h L ∧ HouseOk L ∧ L ≠ [] ∧ H rw' = some (.lst (rrefs R)) ∧ RAt H R ∧ RowsOk L g rep R ∧
  ∀ H' l ds dl, MachAt H H' l L g rep ds dl → Q (.ref l) H'
theorem sc__law_edges : FnScope ["house", "rows", "texts", "number", "text", "edges", "shortest", "longest", "pairs", "row", "stop", "after", "k"] ["house", "rows"] (defScope s__law_edges) := ⟨rfl, rfl, rfl, by decide +kernel, rfl, by decide +kernel, by decide +kernel⟩
theorem ok__law_edges (T : Txt K mg ea) (c__law_ends : Cl P w K mg base 2 "_law_ends" (spEnds K)) : Cl P w K mg base 3 "_law_edges" (spEdges K) := by
  have nd := sc__law_edges.nd
  refine cl_of T.d__law_edges sc__law_edges (fun vs H Q E h => ?_) (fun f cdv A outer s0 H vs Q E hr h => ?_)
  · obtain ⟨hh, rw', L, g, rep, R, rfl, _⟩ := h
    rfl
  · obtain ⟨hh, rw', L, g, rep, R, rfl, hA, ok, hl0, hR, rR, RO, q⟩ := h
    refine ⟨_, (pss_cons (ps_set (i := 2) nd rfl (.inl rfl) pe_dnewK)
      (pss_cons (ps_for PassesOwn.never rfl (pi_listK (K := K) (pv 0)) (pg_tup rfl (pgs_cons (pg_name (i := 3) nd rfl (.inl rfl)) (pgs_cons (pg_name (i := 4) nd rfl (.inl rfl)) pgs_nil)))
        (pss_one (ps_dput (hu_of hr) (pv 2) (pv 3) (pv 4) rfl)))
      (pss_cons (ps_set (i := 5) nd rfl (.inl rfl) (pe_lst pa_nil))
      (pss_cons (ps_for PassesOwn.never rfl (pi_listK (K := K) (pv 1)) (pg_tup rfl (pgs_cons (pg_name (i := 6) nd rfl (.inl rfl)) (pgs_cons (pg_name (i := 7) nd rfl (.inl rfl)) (pgs_cons (pg_name (i := 8) nd rfl (.inl rfl)) pgs_nil))))
        (pss_cons (ps_set (i := 9) nd rfl (.inl rfl) pe_dnewK)
          (pss_cons (ps_for PassesOwn.never rfl (pi_listK (K := K) (pv 8)) (pg_tup rfl (pgs_cons (pg_name (i := 3) nd rfl (.inl rfl)) (pgs_cons (pg_name (i := 10) nd rfl (.inl rfl)) pgs_nil)))
            (pss_one (ps_if (pt_cmpR op_eq (pv 10) (pe_callB call_len_str (by rfl) T.b_len PySem.boot_len (pa_cons (pe_dget (hu_of hr) (pv 2) (pv 3) (fun _ _ => rfl)) pa_nil)) (nomark _))
                (pss_one (ps_dput (hu_of hr) (pv 9) (pv 3) (pe_callB call_len_seq (by rfl) T.b_len PySem.boot_len (pa_cons (pv 1) pa_nil)) rfl))
                (pss_cons (ps_set (i := 11) nd rfl (.inr rfl) (C8.pe_c c__law_ends hr (by decide) (by rfl) (pa_cons (pv 0) (pa_cons (pe_op op_add_str (pv 7) (pe_ix ix_str (pe_dget (hu_of hr) (pv 2) (pv 3) (fun _ _ => rfl)) (pv 10) (fun _ _ => rfl))) pa_nil))))
                  (pss_one (ps_dput (hu_of hr) (pv 9) (pe_ix ix_str (pe_dget (hu_of hr) (pv 2) (pv 3) (fun _ _ => rfl)) (pv 10) (fun _ _ => rfl)) (pe_ix (ixl (K := K)) (pe_lc (own := [("k", 12)]) (g := (gName 12)) rfl nd (pi_range1 rfl T.b_range (pa_cons (pe_callB call_len_seq (by rfl) T.b_len PySem.boot_len (pa_cons (pv 1) pa_nil)) pa_nil)) (blkOk_by (own := [("k", 12)]) (N := ["house", "rows", "texts", "number", "text", "edges", "shortest", "longest", "pairs", "row", "stop", "after", "k"]) (sc := defScope s__law_edges) (by decide +kernel)) (fun _ _ _ _ _ => (pg_name (i := 12) nd rfl (.inl rfl))) (fun _ _ _ _ _ => pts_one (pt_cmpR (op_eqDK (K := K) hr.units) (pe_ix (ixt (K := K)) (pe_ix (ixl (K := K)) (pv 1) (pv 12) (fun _ _ => rfl)) pe_int (fun _ _ => rfl)) (pv 11) (nomark _))) (fun _ _ _ _ _ => (pv 12))) pe_int (fun _ _ => rfl)) rfl))))))
          (pss_one (ps_expr (pe_bm PySem.F.plainAttrs_list PySem.F.slot_list_append PySem.F.type_list_append mt_append (pv 5) (pa_cons (pv 9) pa_nil)))))))
      (pss_cons (ps_if (pt_cmpR op_gt (pe_callB call_len_seq (by rfl) T.b_len PySem.boot_len (pa_cons (pv 0) pa_nil)) pe_int (nomark _))
        (pss_one (ps_expr (pe_bm PySem.F.plainAttrs_list PySem.F.slot_list_append PySem.F.type_list_append mt_append (pv 5) (pa_cons pe_dnewK pa_nil))))
        pss_nil)
      (pss_one (ps_ret (pv 5)))))))), ?_⟩
    have rl : (refs L).length = L.length := List.length_map ..
    have sz : ∀ {n : Nat}, n ≤ 1000 → n ≤ sizeLine := fun h => Nat.le_trans h (by decide)
    have F := RO.fin
    have I := F.inv
    have Rlen := RO.len
    have gn := RO.n
    have rrl : (rrefs R).length = g.n := by rw [rrefs_len, Rlen]
    have hs0 : hsOf L ≠ [] := fun z => hl0 (List.map_eq_nil_iff.mp z)
    have asc : ((hsOf L).map (·.1)).Pairwise (· < ·) := by
      have := ok.asc
      unfold hsOf
      rw [List.map_map]
      exact this
    have few := ok.few
    have t40 : ∀ q ∈ L, q.2.2.length ≤ 40 := fun q hq => (ok.txt q hq).2
    -- the texts by their numbers
    refine fun dT ndT => ?_
    have s1 := same_new (o := .dK []) ndT
    have nnum : ∀ i t, L[i]? = some t → ∀ q ∈ L.take i, q.2.1 ≠ t.2.1 := fun i t e q hq z => by
      obtain ⟨j, hj, ej⟩ := List.mem_take_iff_getElem.mp hq
      obtain ⟨hi, ei⟩ := List.getElem?_eq_some_iff.mp e
      have := List.pairwise_iff_getElem.mp ok.asc j i (by rw [List.length_map]; omega) (by rw [List.length_map]; exact hi) (by omega)
      rw [List.getElem_map, List.getElem_map, ej, ei] at this
      omega
    refine ⟨_, rfl, hh, rfl, ⟨_, s1.seq hA.1⟩, ?_⟩
    refine for_list (K := K) (a := hh) (xs := refs L) (fun i σ H' => ∃ (kvs : List (Key × V)) (y3 y4 : Option V), σ = [some (.ref hh), some (.ref rw'), some (.ref dT), y3, y4, none, none, none, none, none, none, none, none] ∧ Same H H' ∧ H' dT = some (.dK kvs) ∧ kvs.length ≤ i ∧ ∀ q ∈ L.take i, valV kvs (.inl q.2.1) = some (.str q.2.2))
      ⟨[], none, none, rfl, s1, upd_same, Nat.le_refl _, fun q hq => by rw [List.take_zero] at hq; cases hq⟩ (fun i σ H' _ hW => ?_) (fun i x σ H' hx hW => ?_) (fun σ H' hW => ?_)
    · obtain ⟨kvs, y3, y4, rfl, sm, _⟩ := hW
      exact sm.seq hA.1
    · obtain ⟨kvs, y3, y4, rfl, sm, hdT, kl, kv⟩ := hW
      obtain ⟨t, et, tm, rfl⟩ := refs_get hx
      have iL : i < L.length := (List.getElem?_eq_some_iff.mp et).1
      refine ⟨_, _, rfl, same_tup sm (hA.2 t tm), rfl, _, _, rfl, _, _, rfl, rfl, ?_⟩
      refine ⟨_, rfl, _, rfl, _, rfl, dT, _, rfl, DPut.k (k := .inl t.2.1) hdT (sz1000 (by omega)), ?_⟩
      refine ⟨putK kvs (.inl t.2.1) (.str t.2.2), _, _, rfl, same_mut sm ndT, upd_same, ?_, fun q hq => ?_⟩
      · have := length_putK kvs (.inl t.2.1) (.str t.2.2)
        omega
      · rw [List.take_add_one, et] at hq
        rw [valV_put]
        rcases List.mem_append.mp hq with m | m
        · rw [if_neg (fun z => nnum i t et q m (Sum.inl.inj z))]
          exact kv q m
        · have : q = t := by simpa using m
          rw [this, if_pos rfl]
    obtain ⟨kvT, y3, y4, rfl, sm1, hdT, kl, kv⟩ := hW
    rw [rl, List.take_of_length_le (Nat.le_refl _)] at kv
    refine ⟨Nat.zero_le _, fun el nel => ?_⟩
    have s2 := sm1.trans (same_new (o := .lst []) nel)
    have nel0 : H el = none := sm1.free nel
    have hdT2 : (upd H' el (.lst [])) dT = some (.dK kvT) := same_new nel _ _ hdT
    have hel2 : (upd H' el (.lst [])) el = some (.lst []) := upd_same
    generalize upd H' el (.lst []) = H2 at s2 hdT2 hel2 ⊢
    have dTel : dT ≠ el := fun z => by rw [z, hel2] at hdT2; cases hdT2
    -- row by row
    refine ⟨_, rfl, rw', rfl, ⟨_, SqL.of (s2 _ _ hR)⟩, ?_⟩
    refine for_list (K := K) (a := rw') (xs := rrefs R) (fun i σ H' => ∃ (ds : List Addr) (y3 y4 y6 y7 y8 y9 y10 y11 : Option V), σ = [some (.ref hh), some (.ref rw'), some (.ref dT), y3, y4, some (.ref el), y6, y7, y8, y9, y10, y11, none] ∧ Same H H' ∧ H' dT = some (.dK kvT) ∧ H' el = some (.lst (ds.map V.ref)) ∧ ds.length = i ∧ ds.Nodup ∧ (∀ d ∈ ds, H d = none) ∧
      ∀ s d, ds[s]? = some d → ∃ kvs, H' d = some (.dK kvs) ∧ MRep kvs (g.ed s) (Mk (hsOf L) rep (hsOf L).length s) g.n)
      ⟨[], y3, y4, none, none, none, none, none, none, rfl, s2, hdT2, hel2, rfl, List.nodup_nil, (fun d m => nomatch m), fun s d e => by simp at e⟩ (fun i σ H' _ hW => ?_) (fun i x σ H' hx hW => ?_) (fun σ H' hW => ?_)
    · obtain ⟨ds, y3, y4, y6, y7, y8, y9, y10, y11, rfl, sm, _⟩ := hW
      exact SqL.of (sm _ _ hR)
    · obtain ⟨ds, y3, y4, y6, y7, y8, y9, y10, y11, rfl, sm, hdT, hel, dsl, dsn, dsf, hds⟩ := hW
      have ig : i < g.n := by
        have := (List.getElem?_eq_some_iff.mp hx).1
        omega
      obtain ⟨q0, eq0, mq0⟩ := RO.get ig
      obtain ⟨_, e1, e2, e3⟩ := RO.at_ eq0
      unfold rrefs at hx
      rw [List.getElem?_map, eq0] at hx
      have hx := Option.some.inj hx
      subst hx
      obtain ⟨h1, h2, h3⟩ := rR.same sm q0 mq0
      refine ⟨_, _, rfl, .inl (.inl h1), rfl, _, _, rfl, _, _, rfl, _, _, rfl, rfl, ?_⟩
      refine fun dr ndr => ?_
      have ndr0 := sm.free ndr
      have drT : dr ≠ dT := fun z => by rw [z, hdT] at ndr; cases ndr
      have s3 := same_new (o := .dK []) ndr
      refine ⟨_, rfl, q0.2.2.2.1, rfl, ⟨_, SqL.of (s3 _ _ h2)⟩, ?_⟩
      have pl : (prefs q0.2.2.2.2).length = (Sam.plc (hsOf L) (rep i)).length := by rw [prefs_len, ← e3, List.length_map]
      refine for_list (K := K) (a := q0.2.2.2.1) (xs := prefs q0.2.2.2.2) (fun j σ H5 => ∃ (y3 y10 y11 : Option V) (kvs : List (Key × V)), σ = [some (.ref hh), some (.ref rw'), some (.ref dT), y3, y4, some (.ref el), some (.str (SX.S q0.2.1)), some (.str (SX.S q0.2.2.1)), some (.ref q0.2.2.2.1), some (.ref dr), y10, y11, none] ∧ Same H' H5 ∧ H5 dr = some (.dK kvs) ∧
        MRep kvs (seenF (hsOf L) ((Sam.plc (hsOf L) (rep i)).take j) (g.ed i)) (SeenM (hsOf L) ((Sam.plc (hsOf L) (rep i)).take j)) g.n)
        ⟨y3, y10, y11, [], rfl, s3, upd_same, ((MRep.nil g.n).congrF fun c => (seenF_no fun ⟨m, k, t, h, _⟩ => by rw [List.take_zero] at h; cases h).symm).congr fun m => ⟨fun z => z.elim, fun ⟨t, h, _⟩ => by rw [List.take_zero] at h; cases h⟩⟩ (fun j σ H5 _ hW => ?_) (fun j x σ H5 hx hW => ?_) (fun σ H5 hW => ?_)
      · obtain ⟨y3, y10, y11, kvs, rfl, sm5, _⟩ := hW
        exact SqL.of (sm5 _ _ h2)
      · obtain ⟨y3, y10, y11, kvs, rfl, sm5, hdr, rp⟩ := hW
        have jl : j < (prefs q0.2.2.2.2).length := (List.getElem?_eq_some_iff.mp hx).1
        have jl2 : j < q0.2.2.2.2.length := by rw [prefs_len] at jl; exact jl
        have ep : q0.2.2.2.2[j]? = some q0.2.2.2.2[j] := List.getElem?_eq_getElem jl2
        have mp := List.mem_of_getElem? ep
        generalize q0.2.2.2.2[j] = p0 at ep mp
        unfold prefs at hx
        rw [List.getElem?_map, ep] at hx
        have hx := Option.some.inj hx
        subst hx
        have epl : (Sam.plc (hsOf L) (rep i))[j]? = some p0.2 := by rw [← e3, List.getElem?_map, ep]; rfl
        have tk : (Sam.plc (hsOf L) (rep i)).take (j + 1) = (Sam.plc (hsOf L) (rep i)).take j ++ [(p0.2.1, p0.2.2)] := by rw [List.take_add_one, epl]; rfl
        obtain ⟨t, tm, kt, suf⟩ := Sam.mem_plc.mp (List.mem_of_getElem? epl : (p0.2.1, p0.2.2) ∈ _)
        obtain ⟨tx, txm, etx⟩ := List.mem_map.mp tm
        have en : tx.2.1 = p0.2.1 := congrArg Prod.fst etx
        have ett : TL.tl tx.2.2 = t := congrArg Prod.snd etx
        have tlen : tx.2.2.length = t.length := by rw [TL.len_tl, ett]
        have tx40 := t40 tx txm
        have hdT5 := sm5 _ _ hdT
        have dg : ∀ {Hx : Hp}, Same H5 Hx → DGet Hx dT (.int p0.2.1) (some (.str tx.2.2)) := fun {Hx} e => by
          have := DGet.k (k := .inl p0.2.1) (e _ _ hdT5)
          rw [← en, kv tx txm] at this
          rw [← en]
          exact this
        have klen : kvs.length < sizeLine := by
          have h9 := rp.len ((hsOf L).map (·.1)) fun m' hm' => by
            obtain ⟨t', _, h⟩ := hm'
            exact List.mem_map.mpr ⟨_, h, rfl⟩
          rw [List.length_map] at h9
          unfold hsOf at h9
          rw [List.length_map] at h9
          exact sz1000 (by omega)
        refine ⟨_, _, rfl, .inl (.inl (sm5 _ _ (h3 p0 mp))), rfl, _, _, rfl, _, _, rfl, rfl, ?_⟩
        refine ⟨_, rfl, _, rfl, _, rfl, dT, _, rfl, dg (Same.refl _), tx.2.2, rfl, sz (by omega), rfl, _, rfl, ite2 (fun e => ?_) (fun e => ?_)⟩
        · have ek : p0.2.2 = t.length := by
            have := V.int.inj (of_decide_eq_true e)
            omega
          refine ⟨_, rfl, rw', _, rfl, .inl (SqL.of (sm5 _ _ (sm _ _ hR))), _, rfl, _, rfl, dr, _, rfl, DPut.k (k := .inl p0.2.1) hdr klen, ?_⟩
          refine ⟨_, _, _, _, rfl, same_mut sm5 ndr, upd_same, ?_⟩
          rw [rrl, tk]
          refine ((rp.put p0.2.1).congrF fun c => ?_).congr fun m => ?_
          · have hno : t[p0.2.2]? = none := List.getElem?_eq_none (by omega)
            by_cases h : SeenL (hsOf L) ((Sam.plc (hsOf L) (rep i)).take j) c
            · rw [seenF_yes h, seenF_yes ((seenL_snoc asc tm c).mpr (.inl h))]
            · rw [seenF_no h, seenF_no fun z => ((seenL_snoc asc tm c).mp z).elim h fun z => by rw [hno] at z; cases z]
          · rw [seenM_snoc asc tm]
            exact ⟨fun z => z.imp id fun z => ⟨z, ek⟩, fun z => z.imp id fun z => z.1⟩
        · have ek : p0.2.2 < t.length := by
            refine Nat.lt_of_le_of_ne kt fun z => e (decide_eq_true ?_)
            rw [z, ← tlen]
          have ec : t[p0.2.2]? = some t[p0.2.2] := List.getElem?_eq_getElem ek
          generalize t[p0.2.2] = c at ec
          have c127 : c < 127 := by
            have := (ok.txt tx txm).1
            refine okc_lt (List.all_eq_true.mp this c ?_)
            have : c ∈ TL.tl tx.2.2 := by rw [ett]; exact List.mem_of_getElem? ec
            exact this
          have atc : atI tx.2.2.cps.toList (p0.2.2 : Int) = some c := atI_nat (by
            have : tx.2.2.cps.toList = t := ett
            rw [this]
            exact ec)
          -- the word with the letter behind it
          have tv : TL.tl (SX.S q0.2.2.1 ++ ⟨#[c]⟩) = rep i ++ [c] := by
            have e5 : TL.tl (SX.S q0.2.2.1) = q0.2.2.1 := TL.tl_mk _
            rw [TL.tl_append, e5, e2]
          have sl : (rep i).length ≤ p0.2.2 := by
            have := suf.length_le
            rw [List.length_take] at this
            omega
          have wl : (SX.S q0.2.2.1 ++ (⟨#[c]⟩ : Str)).length ≤ 1000 := by
            rw [TL.len_tl, tv, List.length_append]
            show _ + 1 ≤ _
            omega
          have l1 : (SX.S q0.2.2.1).length + (⟨#[c]⟩ : Str).length ≤ sizeLine := by rw [← len_app]; exact sz wl
          refine ⟨_, rfl, _, rfl, _, rfl, _, rfl, dT, _, rfl, dg (Same.refl _), _, rfl, tx.2.2, _, c, rfl, rfl, sz (by omega), atc, _, _, rfl, rfl, l1, hh, L, _, rfl, (hA.same sm).same sm5, few, t40, wl, fun H6 pl Rp s6 npl atp pP eP => ?_⟩
          rw [tv] at eP
          have inn : Sam.Inner (Sam.txs (hsOf L)) (rep i ++ [c]) := by
            refine Sam.Inner.suf (v := t.take (p0.2.2 + 1)) ⟨t, Sam.txs_mem tm, [], t.drop (p0.2.2 + 1), by simp⟩ ?_
            rw [List.take_add_one, ec]
            exact Sam.suf_app suf
          obtain ⟨k0, ek0⟩ := (I.ed_inner ig).mpr inn
          obtain ⟨k0n, ext0⟩ := (I.ed i ig c k0).mp ek0
          have sm6 := sm5.trans s6
          have smH6 := sm.trans sm6
          -- the row with these places
          refine ⟨_, rfl, rw', _, rfl, .inl (SqL.of (smH6 _ _ hR)), _, rfl, by rw [rrl]; omega, by rw [rrl]; omega, fun D nD => ?_⟩
          have egn : ((rrefs R).length : Int).toNat = g.n := by rw [rrl]; omega
          refine lc_w (walk_range (lo := 0) (n := ((rrefs R).length : Int).toNat)) nD (by omega) (fun _ _ => trivial) (fun j acc _ => acc = natV ((List.range j).filter fun x => decide (x = k0))) (fun _ _ => rfl) (fun _ _ _ _ _ _ _ r => r) (fun i H x H' y => by rw [y.1]; exact Same.refl _)
            (fun j2 x acc HA HB Qn Qf hj sm2 y r at_ kn kf => ?_) (fun acc HA smA atD _ rD => ?_)
          · obtain ⟨rfl, rfl⟩ := y
            rw [egn] at hj
            have ej : (0 : Int) + (j2 : Int) = (j2 : Int) := by omega
            obtain ⟨q', eR, mR⟩ := RO.get hj
            obtain ⟨_, _, _, e9⟩ := RO.at_ eR
            obtain ⟨k1, k2, k3⟩ := rR.same (smH6.trans sm2) q' mR
            have eqc := Sam.plc_cls hs0 asc F hj k0n ext0
            have at2 : atI [V.str (SX.S q'.2.1), V.str (SX.S q'.2.2.1), V.ref q'.2.2.2.1] 2 = some (.ref q'.2.2.2.1) := rfl
            refine ⟨rfl, _, rfl, _, rfl, rw', _, _, _, rfl, rfl, SqL.of (sm2 _ _ (smH6 _ _ hR)), by rw [ej]; exact rrefs_at eR, q'.1, _, _, _, rfl, rfl, .inl (.inl k1), at2, _, rfl, dPts (q'.2.2.2.2.map (·.2)), dPts (Rp.map (·.2)), dp_pts k2 k3, dp_pts (sm2 _ _ atp) (pP.same sm2), dPts_shaped _, dPts_shaped _, ?_⟩
            rw [dPts_eqv, e9, eP]
            have flt : ((List.range (j2 + 1)).filter fun x => decide (x = k0)) = ((List.range j2).filter fun x => decide (x = k0)) ++ (if j2 = k0 then [j2] else []) := by
              rw [List.range_succ, List.filter_append]
              congr 1
              by_cases c : j2 = k0
              · subst c; rw [if_pos rfl, List.filter_cons_of_pos (by simp)]; rfl
              · rw [if_neg c, List.filter_cons_of_neg (by simpa using c)]; rfl
            refine ⟨_, rfl, ?_⟩
            by_cases c : j2 = k0
            · rw [decide_eq_true (eqc.mpr c)]
              refine ⟨_, rfl, kn _ _ (Same.refl _) ?_⟩
              rw [r, flt, if_pos c, natV_app]
              show _ ++ [V.int (0 + (j2 : Int))] = _
              rw [ej]
              rfl
            · rw [decide_eq_false (fun z => c (eqc.mp z))]
              refine kf _ (Same.refl _) ?_
              rw [r, flt, if_neg c, List.append_nil]
          rw [egn, filter_one, if_pos k0n] at rD
          subst rD
          have at0 : atI (natV [k0]) 0 = some (.int (k0 : Int)) := rfl
          have sA := s6.trans smA
          refine ⟨D, _, _, _, rfl, rfl, SqL.of atD, at0, _, rfl, _, rfl, _, rfl, dT, _, rfl, dg sA, _, rfl, tx.2.2, _, c, rfl, rfl, sz (by omega), atc, dr, _, rfl, DPut.k (k := lkey c) (sA _ _ hdr) klen, ?_⟩
          refine ⟨_, _, _, _, rfl, same_mut (sm5.trans sA) ndr, upd_same, ?_⟩
          rw [tk]
          refine ((rp.putL c127 k0).congrF fun d => ?_).congr fun m => ?_
          · by_cases z : d = c
            · rw [if_pos z, z, seenF_yes ((seenL_snoc asc tm c).mpr (.inr ec)), ek0]
            · rw [if_neg z]
              by_cases h : SeenL (hsOf L) ((Sam.plc (hsOf L) (rep i)).take j) d
              · rw [seenF_yes h, seenF_yes ((seenL_snoc asc tm d).mpr (.inl h))]
              · rw [seenF_no h, seenF_no fun y => ((seenL_snoc asc tm d).mp y).elim h fun y => by rw [ec] at y; exact z (Option.some.inj y).symm]
          · rw [seenM_snoc asc tm]
            exact ⟨.inl, fun z => z.elim id fun z => by omega⟩
      · obtain ⟨y3, y10, y11, kvs, rfl, sm5, hdr, rp⟩ := hW
        rw [pl, List.take_of_length_le (Nat.le_refl _)] at rp
        have rp2 := (rp.congrF fun c => seen_edges F ig c).congr fun m => seen_marks asc i m
        have hel5 := sm5 _ _ hel
        refine ⟨_, rfl, .inl ⟨rfl, _, SqL.of hel5⟩, _, rfl, el, _, _, rfl, rfl, hel5, szB (by rw [List.length_map]; omega), ?_⟩
        have elT : el ≠ dT := dTel.symm
        have elr : dr ≠ el := fun z => by rw [z, hel5] at hdr; cases hdr
        refine ⟨ds ++ [dr], _, _, _, _, _, _, _, _, rfl, same_mut (sm.trans sm5) nel0, by rw [upd_ne dTel]; exact sm5 _ _ hdT, by rw [upd_same, List.map_append]; rfl, by rw [List.length_append, dsl]; rfl, ?_, fun d m => ?_, fun s d e => ?_⟩
        · rw [List.nodup_append]
          refine ⟨dsn, by simp, fun u hu v hv z => ?_⟩
          rw [List.mem_singleton.mp hv] at z
          obtain ⟨s, hs, es⟩ := List.getElem_of_mem hu
          obtain ⟨k2, h9, _⟩ := hds s u (by rw [List.getElem?_eq_getElem hs, es])
          rw [z, ndr] at h9
          cases h9
        · rcases List.mem_append.mp m with m | m
          · exact dsf d m
          · rw [List.mem_singleton.mp m]; exact ndr0
        · by_cases hs : s < i
          · rw [List.getElem?_append_left (by omega)] at e
            obtain ⟨k2, h9, h10⟩ := hds s d e
            have : d ≠ el := fun z => by rw [z, hel] at h9; cases h9
            exact ⟨k2, by rw [upd_ne this]; exact sm5 _ _ h9, h10⟩
          · have hs2 := (List.getElem?_eq_some_iff.mp e).1
            rw [List.length_append, dsl] at hs2
            have hs3 : s < i + 1 := hs2
            have : s = i := by omega
            subst this
            rw [List.getElem?_append_right (by omega), dsl, Nat.sub_self] at e
            cases e
            exact ⟨kvs, by rw [upd_ne elr]; exact hdr, rp2⟩
    · obtain ⟨ds, y3, y4, y6, y7, y8, y9, y10, y11, rfl, sm, hdT, hel, dsl, dsn, dsf, hds⟩ := hW
      rw [rrl] at dsl
      have hpos : decide ((0 : Int) < ((refs L).length : Int)) = true := decide_eq_true (by rw [rl]; have := List.length_pos_iff.mpr hl0; omega)
      refine ⟨_, rfl, hh, _, rfl, .inl (sm.seq hA.1), _, _, rfl, rfl, _, rfl, ?_⟩
      show (if decide ((0 : Int) < ((refs L).length : Int)) = true then _ else _)
      rw [hpos]
      refine iteT ?_
      refine ⟨_, rfl, .inl ⟨rfl, _, SqL.of hel⟩, fun dl ndl => ?_⟩
      have dlel : dl ≠ el := fun z => by rw [z, hel] at ndl; cases ndl
      refine ⟨el, _, _, rfl, rfl, same_new ndl _ _ hel, szB (by rw [List.length_map]; omega), ?_⟩
      refine ⟨_, rfl, q _ el ds dl ⟨same_mut (sm.trans (same_new ndl)) nel0, F, upd_same, dsl, fun s d e => ?_, by rw [upd_ne dlel, upd_same], nel0, dsf, sm.free ndl, ?_, gn⟩⟩
      · obtain ⟨k2, h9, h10⟩ := hds s d e
        have : d ≠ el := fun z => by rw [z, hel] at h9; cases h9
        exact ⟨k2, by rw [upd_ne this]; exact same_new ndl _ _ h9, h10⟩
      · rw [List.nodup_append]
        refine ⟨dsn, by simp, fun u hu v hv z => ?_⟩
        rw [List.mem_singleton.mp hv] at z
        obtain ⟨s, hs, es⟩ := List.getElem_of_mem hu
        obtain ⟨k2, h9, _⟩ := hds s u (by rw [List.getElem?_eq_getElem hs, es])
        rw [z, ndl] at h9
        cases h9
end

end SH
set_option Elab.async false
set_option linter.all false
set_option maxRecDepth 100000
set_option maxHeartbeats 4000000
/-! slices of texts as lists of signs; letters joined -/
namespace SH
open PySem PySem.Spec PyProof.Rows L2
theorem tlen (z : Str) : (TL.tl z).length = z.length := (TL.len_tl z).symm
theorem cuts_take (z : Str) (k : Nat) : TL.tl (cutS z none (some (k : Int))) = (TL.tl z).take k := by
  show (z.cps.toList.drop (HT.sIx z.length 0 none)).take (HT.sIx z.length z.length (some (k : Int)) - HT.sIx z.length 0 none) = _
  rw [HT.sIx_none, HT.sIx_nat, List.drop_zero, Nat.sub_zero]
  have hz : z.cps.toList.length = z.length := rfl
  rcases Nat.le_total k z.length with h | h
  · rw [Nat.min_eq_left h]
  · rw [Nat.min_eq_right h, List.take_of_length_le (by rw [hz]; exact Nat.le_refl _)]
    exact (List.take_of_length_le (by rw [tlen]; exact h)).symm
theorem cuts_drop (z : Str) (k : Nat) : TL.tl (cutS z (some (k : Int)) none) = (TL.tl z).drop k := by
  show (z.cps.toList.drop (HT.sIx z.length 0 (some (k : Int)))).take (HT.sIx z.length z.length none - HT.sIx z.length 0 (some (k : Int))) = _
  rw [HT.sIx_none, HT.sIx_nat]
  have hz : z.cps.toList.length = z.length := rfl
  rcases Nat.le_total k z.length with h | h
  · rw [Nat.min_eq_left h, List.take_of_length_le (by rw [List.length_drop, hz]; exact Nat.le_refl _)]
  · rw [Nat.min_eq_right h, List.drop_of_length_le (by rw [hz]; exact Nat.le_refl _), List.take_nil]
    exact (List.drop_of_length_le (by rw [tlen]; exact h)).symm
theorem joinL_ones : ∀ cs : List Nat, TL.joinL [] (cs.map fun c => [c]) = cs
  | [] => rfl
  | [c] => rfl
  | c :: d :: r => by
    show [c] ++ ([] ++ TL.joinL [] ((d :: r).map fun c => [c])) = _
    rw [joinL_ones (d :: r)]
    rfl
theorem tl_join_ones (cs : List Nat) : TL.tl (Txt.join "" (cs.map fun c => (⟨#[c]⟩ : Str))) = cs := by
  have e : (Txt.join "" (cs.map fun c => (⟨#[c]⟩ : Str))).cps.toList = TL.joinL [] (cs.map fun c => [c]) := by
    rw [TL.join_eq]
    refine (TL.tl_join "" _).trans ?_
    rw [List.map_map]
    rfl
  rw [joinL_ones] at e
  exact e
end SH

set_option Elab.async false
set_option linter.all false
set_option maxRecDepth 100000
set_option maxHeartbeats 4000000
namespace SH
open PySem PySem.Spec PyProof.Rows L2
section
variable {P : Program} {w : World} {K : PySem.W.Frag} {mg : Str → Option Value} {base : Heap} {ea : Ea}
theorem tl_inj {a b : Str} (h : TL.tl a = TL.tl b) : a = b := by rw [← TL.mk_tl a, ← TL.mk_tl b, h]
/-- the link by the words -/
def spLinkL (K : PySem.W.Frag) : Sp := fun vs H Q _ => ∃ (rw' : Addr) (L : PL) (g : Sam.G) (rep : Nat → Sam.Wd) (R : RT) (k : Nat), vs = [.ref rw', .int (k : Int)] ∧ H rw' = some (.lst (rrefs R)) ∧ RAt H R ∧ RowsOk L g rep R ∧ k < g.n ∧ (∀ i, i < g.n → (rep i).length ≤ 40) ∧
  ∀ H', Same H H' → Q (optN (g.lk k)) H'
theorem sc__law_link : FnScope ["rows", "k", "shortest", "j"] ["rows", "k"] (defScope s__law_link) := ⟨rfl, rfl, rfl, by decide +kernel, rfl, by decide +kernel, by decide +kernel⟩
theorem ok__law_link (T : Txt K mg ea) : Cl P w K mg base 1 "_law_link" (spLinkL K) := by
  have nd := sc__law_link.nd
  refine cl_of T.d__law_link sc__law_link (fun vs H Q E h => ?_) (fun f cdv A outer s0 H vs Q E hr h => ?_)
  · obtain ⟨rw', L, g, rep, R, k, rfl, _⟩ := h
    rfl
  · obtain ⟨rw', L, g, rep, R, k, rfl, hR, rR, RO, hk, r40, q⟩ := h
    refine ⟨_, (pss_cons (ps_set (i := 2) nd rfl (.inr rfl) (pe_ix (ixt (K := K)) (pe_ix (ixl (K := K)) (pv 0) (pv 1) (fun _ _ => rfl)) pe_int (fun _ _ => rfl)))
      (pss_cons (ps_if (pt_cmpR op_eq (pv 2) pe_str (nomark _))
        (pss_one (ps_ret pe_non))
        pss_nil)
      (pss_one (ps_ret (pe_ix (ixl (K := K)) (pe_lc (own := [("j", 3)]) (g := (gName 3)) rfl nd (pi_range1 rfl T.b_range (pa_cons (pe_callB call_len_seq (by rfl) T.b_len PySem.boot_len (pa_cons (pv 0) pa_nil)) pa_nil)) (blkOk_by (own := [("j", 3)]) (N := ["rows", "k", "shortest", "j"]) (sc := defScope s__law_link) (by decide +kernel)) (fun _ _ _ _ _ => (pg_name (i := 3) nd rfl (.inl rfl))) (fun _ _ _ _ _ => pts_one (pt_cmpR op_eq (pe_ix (ixt (K := K)) (pe_ix (ixl (K := K)) (pv 0) (pv 3) (fun _ _ => rfl)) pe_int (fun _ _ => rfl)) (pe_slice sl_str (pv 2) (po_some pe_int) po_none) (nomark _))) (fun _ _ _ _ _ => (pv 3))) pe_int (fun _ _ => rfl)))))), ?_⟩
    have F := RO.fin
    have I := F.inv
    have gn := RO.n
    have rrl : (rrefs R).length = g.n := by rw [rrefs_len, RO.len]
    obtain ⟨q0, eq0, mq0⟩ := RO.get hk
    obtain ⟨_, e1, e2, _⟩ := RO.at_ eq0
    obtain ⟨h1, _, _⟩ := rR q0 mq0
    have at0 : atI [V.str (SX.S q0.2.1), V.str (SX.S q0.2.2.1), V.ref q0.2.2.2.1] 0 = some (.str (SX.S q0.2.1)) := rfl
    have tmw : TL.tl (SX.S q0.2.1) = Sam.mw g rep k := e1 ▸ TL.tl_mk _
    have mwl := I.mw_len hk
    have lle := I.least_le hk
    have r4 := r40 k hk
    have l4 : (SX.S q0.2.1).length ≤ 1000 := by rw [← tlen, tmw]; omega
    refine ⟨_, rfl, _, rfl, rw', _, _, _, rfl, rfl, SqL.of hR, rrefs_at eq0, q0.1, _, _, _, rfl, rfl, .inl (.inl h1), at0, ?_⟩
    refine ⟨_, rfl, rfl, _, rfl, ite2 (fun e => ?_) (fun e => ?_)⟩
    · have em : Sam.mw g rep k = [] := by
        have := V.str.inj (of_decide_eq_true e)
        rw [← tmw, this]
        rfl
      have k0 := I.mw_nil hk em
      have : g.lk k = none := by
        cases el : g.lk k with
        | none => rfl
        | some j =>
          have := F.lk_lt hk el
          omega
      have q' := q H (Same.refl _)
      rw [this] at q'
      exact q'
    have k0 : k ≠ 0 := fun z => e (by
      have : Sam.mw g rep k = [] := by rw [z]; exact I.mw_zero
      refine decide_eq_true ?_
      rw [tl_inj (b := "") (tmw.trans this)])
    obtain ⟨j0, ej0, _⟩ := F.lk_some hk k0
    obtain ⟨j0n, _⟩ := I.dec hk ej0
    have dr := F.link_word hk ej0
    refine ⟨_, rfl, rw', _, rfl, .inl (SqL.of hR), _, rfl, by rw [rrl]; omega, by rw [rrl]; omega, fun D nD => ?_⟩
    have egn : ((rrefs R).length : Int).toNat = g.n := by rw [rrl]; omega
    refine lc_w (walk_range (lo := 0) (n := ((rrefs R).length : Int).toNat)) nD (by omega) (fun _ _ => trivial) (fun j acc _ => acc = natV ((List.range j).filter fun x => decide (x = j0))) (fun _ _ => rfl) (fun _ _ _ _ _ _ _ r => r) (fun i H x H' y => by rw [y.1]; exact Same.refl _)
      (fun j x acc HA HB Qn Qf hj sm2 y r at_ kn kf => ?_) (fun acc HA smA atD _ rD => ?_)
    · obtain ⟨rfl, rfl⟩ := y
      rw [egn] at hj
      have ej : (0 : Int) + (j : Int) = (j : Int) := by omega
      obtain ⟨q', eR, mR⟩ := RO.get hj
      obtain ⟨_, _, e9, _⟩ := RO.at_ eR
      obtain ⟨k1, _, _⟩ := rR.same sm2 q' mR
      have at1 : atI [V.str (SX.S q'.2.1), V.str (SX.S q'.2.2.1), V.ref q'.2.2.2.1] 1 = some (.str (SX.S q'.2.2.1)) := rfl
      have cd : TL.tl (cutS (SX.S q0.2.1) (some 1) none) = rep j0 := by
        have := cuts_drop (SX.S q0.2.1) 1
        rw [tmw, dr] at this
        exact this
      have iff : decide (V.str (SX.S q'.2.2.1) = V.str (cutS (SX.S q0.2.1) (some 1) none)) = decide (j = j0) := by
        refine decide_eq_decide.mpr ⟨fun h => ?_, fun h => ?_⟩
        · have := congrArg TL.tl (V.str.inj h)
          rw [cd] at this
          have e5 : TL.tl (SX.S q'.2.2.1) = q'.2.2.1 := TL.tl_mk _
          rw [e5, e9] at this
          exact I.inj j j0 hj j0n this
        · rw [e9, h]
          refine congrArg V.str (tl_inj ?_)
          rw [cd]
          first | done | exact TL.tl_mk _
      refine ⟨rfl, _, rfl, _, rfl, rw', _, _, _, rfl, rfl, SqL.of (sm2 _ _ hR), by rw [ej]; exact rrefs_at eR, q'.1, _, _, _, rfl, rfl, .inl (.inl k1), at1, _, rfl, _, rfl, _, rfl, Nat.le_trans l4 (by decide), rfl, _, rfl, ?_⟩
      rw [iff]
      have flt : ((List.range (j + 1)).filter fun x => decide (x = j0)) = ((List.range j).filter fun x => decide (x = j0)) ++ (if j = j0 then [j] else []) := by
        rw [List.range_succ, List.filter_append]
        congr 1
        by_cases c : j = j0
        · subst c; rw [if_pos rfl, List.filter_cons_of_pos (by simp)]; rfl
        · rw [if_neg c, List.filter_cons_of_neg (by simpa using c)]; rfl
      by_cases c : j = j0
      · rw [decide_eq_true c]
        refine iteT ⟨_, rfl, kn _ _ (Same.refl _) ?_⟩
        rw [r, flt, if_pos c, natV_app]
        show _ ++ [V.int (0 + (j : Int))] = _
        rw [ej]
        rfl
      · rw [decide_eq_false c]
        refine iteF (kf _ (Same.refl _) ?_)
        rw [r, flt, if_neg c, List.append_nil]
    rw [egn, filter_one, if_pos j0n] at rD
    subst rD
    have at0 : atI (natV [j0]) 0 = some (.int (j0 : Int)) := rfl
    have q' := q HA smA
    rw [ej0] at q'
    exact ⟨D, _, _, _, rfl, rfl, SqL.of atD, at0, q'⟩
/-- a house with a long text -/
def spLong (K : PySem.W.Frag) : Sp := fun vs H Q _ => ∃ (a : Addr) (ns : List Int) (k : Int), vs = [.ref a, .int k] ∧ SqL K H a (ns.map V.int) ∧ Dr ns ∧ 0 ≤ k ∧ k < 10000 ∧
  ∀ (p : Addr) (L : PL) (H' : Hp), Same H H' → H p = none → H' p = some (.lst (refs L)) → PairsAt K H' L → HouseOk L → Q (.ref p) H'
theorem sc__law_long : FnScope ["draws", "k", "house", "many", "place", "n", "size", "text", "j"] ["draws", "k"] (defScope s__law_long) := ⟨rfl, rfl, rfl, by decide +kernel, rfl, by decide +kernel, by decide +kernel⟩
theorem ok__law_long (T : Txt K mg ea) (c__law_mix : Cl P w K mg base 1 "_law_mix" (spDraw K)) : Cl P w K mg base 2 "_law_long" (spLong K) := by
  have nd := sc__law_long.nd
  refine cl_of T.d__law_long sc__law_long (fun vs H Q E h => ?_) (fun f cdv A outer s0 H vs Q E hr h => ?_)
  · obtain ⟨a, ns, k, rfl, _⟩ := h
    rfl
  · obtain ⟨a, ns, k, rfl, hS, hD, h0, h1, q⟩ := h
    refine ⟨_, (pss_cons (ps_set (i := 2) nd rfl (.inl rfl) (pe_lst pa_nil))
      (pss_cons (ps_set (i := 3) nd rfl (.inl rfl) (pe_op op_add pe_int (C8.pe_c c__law_mix hr (by decide) (by rfl) (pa_cons (pv 0) (pa_cons (pv 1) (pa_cons pe_int pa_nil))))))
      (pss_cons (ps_set (i := 4) nd rfl (.inl rfl) (C8.pe_c c__law_mix hr (by decide) (by rfl) (pa_cons (pv 0) (pa_cons (pe_op op_add (pv 1) pe_int) (pa_cons (pv 3) pa_nil)))))
      (pss_cons (ps_for PassesOwn.never rfl (pi_range1 rfl T.b_range (pa_cons (pv 3) pa_nil)) (pg_name (i := 5) nd rfl (.inr rfl))
        (pss_cons (ps_set (i := 6) nd rfl (.inl rfl) (C8.pe_c c__law_mix hr (by decide) (by rfl) (pa_cons (pv 0) (pa_cons (pe_op op_add (pe_op op_add (pv 1) pe_int) (pv 5)) (pa_cons pe_int pa_nil)))))
          (C8.pss_cut (ps_if (pt_cmpR op_eq (pv 5) (pv 4) (nomark _))
            (pss_one (ps_set (i := 6) nd rfl (.inl rfl) (pe_op op_add pe_int (C8.pe_c c__law_mix hr (by decide) (by rfl) (pa_cons (pv 0) (pa_cons (pe_op op_add (pv 1) pe_int) (pa_cons pe_int pa_nil)))))))
            pss_nil)
          (pss_cons (ps_set (i := 7) nd rfl (.inl rfl) (pe_join pe_str (pe_lc (own := [("j", 8)]) (g := (gName 8)) rfl nd (pi_range1 rfl T.b_range (pa_cons (pv 6) pa_nil)) (blkOk_by (own := [("j", 8)]) (N := ["draws", "k", "house", "many", "place", "n", "size", "text", "j"]) (sc := defScope s__law_long) (by decide +kernel)) (fun _ _ _ _ _ => (pg_name (i := 8) nd rfl (.inl rfl))) (fun _ _ _ _ _ => pts_nil) (fun _ _ _ _ _ => (pe_ix ix_str pe_str (pe_op op_mod (pe_callTy call_int1 (by rfl) T.b_int (by decide +kernel) (pa_cons (pe_op op_fdiv (C8.pe_c c__law_mix hr (by decide) (by rfl) (pa_cons (pv 0) (pa_cons (pe_op op_add (pe_op op_add (pe_op op_add (pv 1) pe_int) (pe_op op_mul pe_int (pv 5))) (pv 8)) (pa_cons pe_int pa_nil)))) pe_int) pa_nil)) pe_int) (fun _ _ => rfl))))))
          (pss_one (ps_expr (pe_bm PySem.F.plainAttrs_list PySem.F.slot_list_append PySem.F.type_list_append mt_append (pv 2) (pa_cons (pe_tup (pa_cons (pe_op op_add (pe_op op_mul pe_int (pv 5)) (C8.pe_c c__law_mix hr (by decide) (by rfl) (pa_cons (pv 0) (pa_cons (pe_op op_add (pe_op op_add (pv 1) pe_int) (pv 5)) (pa_cons pe_int pa_nil))))) (pa_cons (pv 7) pa_nil))) pa_nil))))))))
      (pss_one (ps_ret (pv 2))))))), ?_⟩
    refine ⟨Nat.zero_le _, fun p hp => ?_⟩
    have sm0 : Same H (upd H p (.lst [])) := same_new hp
    refine ⟨_, rfl, _, rfl, a, ns, k, 8, rfl, sm0.seq hS, hD, by omega, by omega, by omega, fun m0 u0 u1 => ⟨_, _, rfl, rfl, ?_⟩⟩
    refine ⟨_, rfl, _, rfl, _, _, rfl, rfl, _, rfl, a, ns, k + 1, 1 + m0, rfl, sm0.seq hS, hD, by omega, by omega, by omega, fun pl v0 v1 => ?_⟩
    refine ⟨_, rfl, 1 + m0, rfl, by omega, by omega, ?_⟩
    refine for_range (lo := 0) (n := (1 + m0).toNat) (fun i σ H' => ∃ (L : PL) (y5 y6 y7 : Option V), σ = [some (.ref a), some (.int k), some (.ref p), some (.int (1 + m0)), some (.int pl), y5, y6, y7, none] ∧ Same H H' ∧ H' p = some (.lst (refs L)) ∧ PairsAt K H' L ∧ L.length = i ∧ (L.map (·.2.1)).Pairwise (· < ·) ∧ (∀ q ∈ L, q.2.1 < 13 * (i : Int)) ∧ (∀ q ∈ L, IsLet q.2.2 ∧ q.2.2.length ≤ 40) ∧ ∀ q ∈ L, ∀ c ∈ TL.tl q.2.2, c ∈ [97, 98])
      ⟨[], none, none, none, rfl, sm0, upd_same, (fun q m => nomatch m), rfl, List.Pairwise.nil, (fun q m => nomatch m), (fun q m => nomatch m), fun q m => nomatch m⟩ (fun i σ H' hi hW => ?_) (fun σ H' hW => ?_)
    · obtain ⟨L, y5, y6, y7, rfl, sm, at_, hP, ln, asc, lt, txt, al⟩ := hW
      have i8 : i < 8 := by omega
      -- the size
      refine ⟨_, rfl, _, rfl, _, _, rfl, rfl, _, rfl, _, _, rfl, rfl, a, ns, k + 2 + (0 + (i : Int)), 5, rfl, sm.seq hS, hD, by omega, by omega, by omega, fun s0 t0 t1 => ?_⟩
      refine ⟨fun σ H2 => H2 = H' ∧ ∃ sz : Int, 0 ≤ sz ∧ sz ≤ 40 ∧ σ = [some (.ref a), some (.int k), some (.ref p), some (.int (1 + m0)), some (.int pl), some (.int (0 + (i : Int))), some (.int sz), y7, none], ?_, ?_⟩
      · refine ⟨_, rfl, _, rfl, rfl, _, rfl, ite2 (fun e => ?_) (fun e => ⟨rfl, s0, t0, by omega, rfl⟩)⟩
        refine ⟨_, rfl, _, rfl, _, _, rfl, rfl, a, ns, k + 10, 26, rfl, sm.seq hS, hD, by omega, by omega, by omega, fun s2 t2 t3 => ⟨_, _, rfl, rfl, rfl, _, by omega, by omega, rfl⟩⟩
      · rintro σ' H2 ⟨rfl, sz, z0, z1, rfl⟩
        -- the text
        refine ⟨⟨_, rfl⟩, _, rfl, sz, rfl, by omega, by omega, fun D nD => ?_⟩
        refine lc_w (walk_range (lo := 0) (n := sz.toNat)) nD (by omega) (fun _ _ => trivial) (fun j acc _ => ∃ cs : List Nat, acc = (cs.map fun c => (⟨#[c]⟩ : Str)).map V.str ∧ cs.length = j ∧ ∀ c ∈ cs, c ∈ [97, 98]) (fun _ _ => ⟨[], rfl, rfl, fun c m => nomatch m⟩) (fun _ _ _ _ _ _ _ r => r) (fun i H x H' y => by rw [y.1]; exact Same.refl _)
          (fun j x acc HA HB Qn Qf hj sm2 y r at2 kn kf => ?_) (fun acc HA smA atD _ rD => ?_)
        · obtain ⟨rfl, rfl⟩ := y
          obtain ⟨cs, c1, c2, c3⟩ := r
          have hj2 : (j : Int) < 40 := by omega
          refine ⟨rfl, _, rfl, _, rfl, _, _, rfl, rfl, _, rfl, _, _, rfl, rfl, .inl (by decide), _, _, rfl, rfl, _, rfl, _, _, rfl, rfl, a, ns, k + 12 + 41 * (0 + (i : Int)) + (0 + (j : Int)), 9000, rfl, (sm.trans sm2).seq hS, hD, by omega, by omega, by omega, fun cell g0 g1 => ?_⟩
          refine ⟨_, _, rfl, rfl, (by constructor <;> decide), .inl ⟨_, rfl, _, _, rfl, rfl, (by show (0 : Int) < 2; decide), ?_⟩⟩
          have m2 : cell / 3 % 2 = 0 ∨ cell / 3 % 2 = 1 := by omega
          have fin : ∀ c : Nat, c ∈ [97, 98] → Qn (.str ⟨#[c]⟩) HB := fun c hc => kn _ _ (Same.refl _) ⟨cs ++ [c], by rw [c1, List.map_append, List.map_append]; rfl, by rw [List.length_append, c2]; rfl, fun d hd => by
            rcases List.mem_append.mp hd with m | m
            · exact c3 d m
            · rw [List.mem_singleton.mp m]; exact hc⟩
          rcases m2 with e | e
          · exact ⟨"ab", cell / 3 % 2, 97, rfl, rfl, by decide, by rw [e]; rfl, fin 97 (by simp)⟩
          · exact ⟨"ab", cell / 3 % 2, 98, rfl, rfl, by decide, by rw [e]; rfl, fin 98 (by simp)⟩
        obtain ⟨cs, c1, c2, c3⟩ := rD
        have tj := tl_join_ones cs
        have sumj : ((cs.map fun c => (⟨#[c]⟩ : Str)).map Str.length).sum = cs.length := by
          rw [List.map_map]
          have : (Str.length ∘ fun c => (⟨#[c]⟩ : Str)) = fun _ => 1 := by funext c; rfl
          rw [this]
          clear c1 c2 c3 tj this
          induction cs with
          | nil => rfl
          | cons c r ih => rw [List.map_cons, List.sum_cons, ih, List.length_cons]; omega
        refine ⟨"", D, cs.map fun c => ⟨#[c]⟩, rfl, rfl, .inl (SqL.of (by rw [atD, c1])), ?_, ?_⟩
        · rw [sumj, List.length_map]
          have e0 : (Str.ofString "").length = 0 := rfl
          rw [e0]
          omega
        -- put in
        have smA' := sm.trans smA
        refine ⟨_, rfl, .inl ⟨rfl, _, SqL.of (smA _ _ at_)⟩, _, rfl, _, _, rfl, rfl, .inl (by decide), _, rfl, _, rfl, _, _, rfl, rfl, _, rfl, _, _, rfl, rfl, a, ns, k + 11 + (0 + (i : Int)), 9, rfl, smA'.seq hS, hD, by omega, by omega, by omega, fun nn x0 x1 => ?_⟩
        refine ⟨_, _, rfl, rfl, _, rfl, (by show 2 ≤ sizeLine; decide), fun t nt => ?_⟩
        have st := same_new (o := .tup [.int (13 * (0 + (i : Int)) + nn), .str (Txt.join "" (cs.map fun c => ⟨#[c]⟩))]) nt
        have atp := st _ _ (smA _ _ at_)
        refine ⟨p, _, _, rfl, rfl, atp, sz1000 (by unfold refs; rw [List.length_map]; omega), ?_⟩
        refine ⟨L ++ [(t, 13 * (0 + (i : Int)) + nn, Txt.join "" (cs.map fun c => ⟨#[c]⟩))], _, _, _, rfl, same_mut (smA'.trans st) hp, ?_, ?_, ?_, ?_, ?_, ?_, ?_⟩
        · rw [upd_same]; unfold refs; rw [List.map_append]; rfl
        · have np : ∀ {b : Addr} {xs : List V}, SqT K (upd HA t (.tup [.int (13 * (0 + (i : Int)) + nn), .str (Txt.join "" (cs.map fun c => ⟨#[c]⟩))])) b xs → SqT K (upd (upd HA t (.tup [.int (13 * (0 + (i : Int)) + nn), .str (Txt.join "" (cs.map fun c => ⟨#[c]⟩))])) p (.lst (refs L ++ [.ref t]))) b xs := fun {b xs} h => but_tup atp but_upd h
          intro q hq
          rcases List.mem_append.mp hq with m1 | m1
          · exact np (same_tup st (same_tup smA (hP q m1)))
          · rw [List.mem_singleton.mp m1]; exact np (.inl (.inl upd_same))
        · rw [List.length_append, ln]; rfl
        · rw [List.map_append, List.pairwise_append]
          refine ⟨asc, by simp, fun x hx y hy => ?_⟩
          obtain ⟨q, hq, rfl⟩ := List.mem_map.mp hx
          simp at hy
          subst hy
          have := lt q hq
          omega
        · intro q hq
          rcases List.mem_append.mp hq with m1 | m1
          · have := lt q m1; omega
          · rw [List.mem_singleton.mp m1]; show 13 * (0 + (i : Int)) + nn < _; omega
        · intro q hq
          rcases List.mem_append.mp hq with m1 | m1
          · exact txt q m1
          · rw [List.mem_singleton.mp m1]
            refine ⟨?_, ?_⟩
            · show ((Txt.join "" (cs.map fun c => ⟨#[c]⟩)).cps.toList.all okc) = true
              have : (Txt.join "" (cs.map fun c => (⟨#[c]⟩ : Str))).cps.toList = cs := tj
              rw [this]
              refine List.all_eq_true.mpr fun c hc => ?_
              have := c3 c hc
              simp at this
              rcases this with e | e <;> rw [e] <;> decide
            · show (Txt.join "" (cs.map fun c => (⟨#[c]⟩ : Str))).length ≤ 40
              rw [← tlen, tj]
              omega
        · intro q hq
          rcases List.mem_append.mp hq with m1 | m1
          · exact al q m1
          · rw [List.mem_singleton.mp m1]
            intro c hc
            refine c3 c ?_
            rw [← tj]
            exact hc
    · obtain ⟨L, y5, y6, y7, rfl, sm, at_, hP, ln, asc, lt, txt, al⟩ := hW
      exact ⟨_, rfl, q p L H' sm hp at_ hP ⟨asc, txt, by omega, [97, 98], by decide, al⟩⟩
end

end SH
set_option Elab.async false
set_option linter.all false
set_option maxRecDepth 100000
set_option maxHeartbeats 4000000
/-! a != b, two lists of equal things (dicts among them) -/
namespace PySem.SeqAt
open AutoSeq1 (wpAny_loadPart')
open MeetsSeq MeetsSeq2 MeetsSeq3 SeqRoads2
section
variable {prog : Program} {w : World}
theorem sh_ne_turn (p q : Addr) (us ws : Array Value) (m m2 : Nat) (dp dq : Option Addr) (kp kq : Array (Option Value)) (sz : us.size = ws.size) (k : Nat) :
    ∀ i : Nat, us.size - i = k → MeetsIn prog w (Builtin.«list.__eq__.loop» ⟨[.ref p, .ref q, rawInt i, rawInt 3], []⟩)
      (fun A R s => s.heap.get? p = some { cls := .type "list", dict := dp, data := .seq us m, slots := kp } ∧ s.heap.get? q = some { cls := .type "list", dict := dq, data := .seq ws m2, slots := kq } ∧
        (∀ j (h1 : j < us.size) (h2 : j < ws.size), EqP prog w A.in1 s us[j] ws[j] true) ∧ R (.ok (.ret (.bool false))) s) := by
  induction k with
  | zero =>
    intro i hk A R s h
    obtain ⟨hp, g, d, tk, os⟩ := s; obtain ⟨hP, hQ, he, h⟩ := h
    wp_walk using wpAny_loadPart' hP, wpAny_loadPart' hQ
    have i1 : us[((i : Nat) : Int).toNat]? = none := by simp; omega
    have i2 : ws[((i : Nat) : Int).toNat]? = none := by simp; omega
    rw [i1, i2]
    wp_walk using wpAny_loadPart' hP, wpAny_loadPart' hQ
    show R (.ok (.ret (.bool (us.size != ws.size)))) _
    rw [sz, bne_self_eq_false]
    exact h
  | succ k ih =>
    intro i hk A R s h
    obtain ⟨hp, g, d, tk, os⟩ := s; obtain ⟨hP, hQ, he, h⟩ := h
    wp_walk using wpAny_loadPart' hP, wpAny_loadPart' hQ
    have l1 : i < us.size := by omega
    have l2 : i < ws.size := by omega
    have i1 : us[((i : Nat) : Int).toNat]? = some us[i] := by simp [l1]
    have i2 : ws[((i : Nat) : Int).toNat]? = some ws[i] := by simp [l2]
    have ec : ((i : Int) + 1) = ((i + 1 : Nat) : Int) := by push_cast; rfl
    rw [i1, i2]
    refine wpAny_bind (he i l1 l2 _ _ ?_)
    wp_walk
    rw [ec]
    exact ⟨plainId_quiet plain_eq_loop _, codeAny_builtin entry_eq_loop (by
      rw [Around.under_plainId plain_eq_loop _]
      exact ih (i + 1) (by omega) A R _ ⟨hP, hQ, he, h⟩)⟩
theorem sh_list_ne (p q : Addr) (us ws : Array Value) (m m2 : Nat) (dp dq : Option Addr) (kp kq : Array (Option Value)) (sz : us.size = ws.size) :
    MeetsIn prog w (Builtin.«list.__ne__» ⟨[.ref p, .ref q], []⟩)
      (fun A R s => s.heap.get? p = some { cls := .type "list", dict := dp, data := .seq us m, slots := kp } ∧ s.heap.get? q = some { cls := .type "list", dict := dq, data := .seq ws m2, slots := kq } ∧
        (∀ j (h1 : j < us.size) (h2 : j < ws.size), EqP prog w A.in1 s us[j] ws[j] true) ∧ R (.ok (.ret (.bool false))) s) := by
  intro A R s h
  obtain ⟨hp, g, d, tk, os⟩ := s; obtain ⟨hP, hQ, he, h⟩ := h
  have f3 := AutoSeq1.sub_list_list
  have nz : ¬ (us.size != ws.size) = true := by simp [sz]
  wp_walk using wpAny_loadPart' hP, wpAny_loadPart' hQ
  exact ⟨plainId_quiet plain_eq_loop _, codeAny_builtin entry_eq_loop (by
    rw [Around.under_plainId plain_eq_loop _]
    exact sh_ne_turn p q us ws m m2 dp dq kp kq sz _ 0 rfl A R _ ⟨hP, hQ, he, h⟩)⟩
theorem sh_ne_lists {A : Around} {s : Shared} {p q : Addr} {us ws : Array Value} (hp : s.heap.IsList p us) (hq : s.heap.IsList q ws) (sz : us.size = ws.size) (hu : A.units < cLine)
    (he : ∀ j (h1 : j < us.size) (h2 : j < ws.size), EqP prog w A.in1 s us[j] ws[j] true) (E Q : Value → Shared → Prop) (h : Q (.bool false) s) : wpAny (model prog w) A (richCompare .NotEq (.ref p) (.ref q)) Q E s := by
  obtain ⟨⟨c1, d1, x1, s1⟩, ho, hc, n, hd⟩ := id hp
  obtain ⟨⟨c2, d2, x2, s2⟩, ho2, hc2, n2, hd2⟩ := id hq
  simp only at hc hd hc2 hd2
  subst hc hd hc2 hd2
  have ta : s.TypeIs (.ref p) "list" := ⟨_, ho, rfl⟩
  have tb : s.TypeIs (.ref q) "list" := ⟨_, ho2, rfl⟩
  exact wpAny_richCompare_same_room (op := .NotEq) ta tb F.slot_list_ne (call_meetsIn F.slot_list_ne ta F.entry_list_ne (F.args_list_ne_2 _ _) (sh_list_ne p q us ws n n2 d1 d2 s1 s2 sz)
    ⟨ho, ho2, he, show Value.bool false ≠ Value.notImplemented ∧ Q (.bool false) s from ⟨(fun x => nomatch x), h⟩⟩) hu
end
end PySem.SeqAt
namespace SH
open PySem PySem.Spec PyProof.Rows L2
def rNeV (K : PySem.W.Frag) : R2 := fun x y H Q => ∃ n a b xs ys, n ≤ 60 ∧ x = .ref a ∧ y = .ref b ∧ SqL K H a xs ∧ SqL K H b ys ∧ Paired (EqV K H n) xs ys ∧ Q (.bl false) H
theorem op_neV {X : Cx} (hu : X.A.units + 64 < cLine) : OpR X (compareOp .NotEq) (rNeV X.K) := by
  intro pins s σ H x y v u Q I rx ry h
  obtain ⟨n, a, b, xs, ys, hn, rfl, rfl, ha, hb, hp, q⟩ := h
  cases (show v = Value.ref a from rx)
  cases (show u = Value.ref b from ry)
  obtain ⟨us, r1, p1, _⟩ := I.list ha
  obtain ⟨ws, r2, p2, _⟩ := I.list hb
  have hsz : us.toArray.size = ws.toArray.size := by
    rw [List.size_toArray, List.size_toArray, ← r1.length, ← r2.length]
    exact Paired.length hp
  refine SeqAt.sh_ne_lists p1.isList p2.isList hsz (A := X.A) (by omega) (fun j h1 h2 => ?_) _ _ ⟨.bl false, H, I, rfl, q⟩
  have k := items_run (A := X.A.in1) (fun x y v u => eqV_run I n X.A.in1 (by show X.A.units + 1 + n < cLine; omega) x y v u) hp r1 r2 j (by simpa using h1) (by simpa using h2)
  simpa using k
theorem op_neVK {X : Cx} {K : PySem.W.Frag} (hu : X.A.units + 64 < cLine) (h : X.K = K := by rfl) : OpR X (compareOp .NotEq) (rNeV K) := h ▸ op_neV hu
theorem op_eqVK {X : Cx} {K : PySem.W.Frag} (hu : X.A.units + 64 < cLine) (h : X.K = K := by rfl) : OpR X (compareOp .Eq) (rEqV K) := h ▸ op_eqV hu
end SH
set_option linter.all false
/-! there is one way to number the classes -/
namespace Sam
def Mw (D : List Wd) (w : Wd) : Prop := ∃ v, Ext (LC D) w v ∧ ∀ u, Ext (LC D) u v → w <:+ u
theorem Fin.mw_iff {D : List Wd} {g : G} {rep : Nat → Wd} (F : Fin D g rep) (w : Wd) : w ∈ (List.range g.n).map (mw g rep) ↔ Mw D w := by
  constructor
  · intro h
    obtain ⟨k, hk, rfl⟩ := List.mem_map.mp h
    have hk := List.mem_range.mp hk
    exact ⟨rep k, F.inv.mw_ext hk, fun u hu => F.inv.mw_le hk hu⟩
  · rintro ⟨v, h1, h2⟩
    obtain ⟨k, hk, rfl⟩ := (F.inv.lc v).mp h1.1
    exact List.mem_map.mpr ⟨k, List.mem_range.mpr hk, suf_antisymm (F.inv.mw_le hk h1) (h2 _ (F.inv.mw_ext hk))⟩
theorem Fin.sorted {D : List Wd} {g : G} {rep : Nat → Wd} (F : Fin D g rep) : ((List.range g.n).map (mw g rep)).Pairwise slx := by
  rw [List.pairwise_iff_getElem]
  intro i j hi hj h
  rw [List.length_map, List.length_range] at hi hj
  rw [List.getElem_map, List.getElem_map, List.getElem_range, List.getElem_range]
  exact F.so i j h hj
theorem slx_nd {l : List Wd} (h : l.Pairwise slx) : l.Nodup := by
  refine List.Pairwise.imp ?_ h
  intro a b h e
  rw [e] at h
  exact slx_irr h
theorem slx_eq {l m : List Wd} (h1 : l.Pairwise slx) (h2 : m.Pairwise slx) (h : ∀ q, q ∈ l ↔ q ∈ m) : l = m :=
  List.Perm.eq_of_pairwise (fun a b _ _ h1 h2 => (slx_irr (slx_trans h1 h2)).elim) h1 h2 ((List.perm_ext_iff_of_nodup (slx_nd h1) (slx_nd h2)).mpr h)
structure SameG (g : G) (rep : Nat → Wd) (g' : G) (rep' : Nat → Wd) : Prop where
  n : g.n = g'.n
  mw : ∀ k, k < g.n → mw g rep k = mw g' rep' k
  rep : ∀ k, k < g.n → rep k = rep' k
  ed : ∀ k, k < g.n → ∀ c, g.ed k c = g'.ed k c
  lk : ∀ k, k < g.n → g.lk k = g'.lk k
theorem opt_iff {a b : Option Nat} (h : ∀ j, a = some j ↔ b = some j) : a = b := by
  cases a with
  | none =>
    cases b with
    | none => rfl
    | some j => exact absurd ((h j).mpr rfl) (by simp)
  | some i => exact ((h i).mp rfl).symm
theorem Fin.uniq {D : List Wd} {g g' : G} {rep rep' : Nat → Wd} (F : Fin D g rep) (F' : Fin D g' rep') : SameG g rep g' rep' := by
  have e := slx_eq F.sorted F'.sorted fun w => (F.mw_iff w).trans (F'.mw_iff w).symm
  have hn : g.n = g'.n := by
    have := congrArg List.length e
    simpa using this
  have hm : ∀ k, k < g.n → Sam.mw g rep k = Sam.mw g' rep' k := fun k hk => by
    have := congrArg (fun l => l[k]?) e
    simp only [List.getElem?_map, List.getElem?_range hk, List.getElem?_range (hn ▸ hk)] at this
    exact Option.some.inj this
  have hr : ∀ k, k < g.n → rep k = rep' k := fun k hk => by
    have h1 := F.inv.mw_ext hk
    have h2 := F'.inv.mw_ext (hn ▸ hk)
    rw [← hm k hk] at h2
    exact h1.uniq h2
  refine ⟨hn, hm, hr, fun k hk c => opt_iff fun j => ?_, fun k hk => opt_iff fun j => ?_⟩
  · rw [F.inv.ed k hk, F'.inv.ed k (hn ▸ hk), ← hn, ← hr k hk]
    constructor
    · rintro ⟨h1, h2⟩
      exact ⟨h1, hr j h1 ▸ h2⟩
    · rintro ⟨h1, h2⟩
      exact ⟨h1, by rw [hr j h1]; exact h2⟩
  · rw [F.inv.lk k hk, F'.inv.lk k (hn ▸ hk), ← hn, ← hr k hk]
    constructor
    · rintro ⟨h1, h2⟩
      exact ⟨h1, hr j h1 ▸ h2⟩
    · rintro ⟨h1, h2⟩
      exact ⟨h1, by rw [hr j h1]; exact h2⟩
end Sam
set_option Elab.async false
set_option linter.all false
set_option maxRecDepth 100000
set_option maxHeartbeats 4000000
namespace SH
open PySem PySem.Spec PyProof.Rows L2
/-! two machines of one house are equal -/
theorem paired_of {α β : Type} {R : α → β → Prop} : ∀ {xs : List α} {ys : List β}, xs.length = ys.length → (∀ (i : Nat) (x : α) (y : β), xs[i]? = some x → ys[i]? = some y → R x y) → Paired R xs ys
  | [], [], _, _ => .nil
  | [], _ :: _, h, _ => by cases h
  | _ :: _, [], h, _ => by cases h
  | x :: xs, y :: ys, h, k => .cons (k 0 x y rfl rfl) (paired_of (Nat.succ.inj h) fun i a b h1 h2 => k (i + 1) a b h1 h2)
theorem valV_mem {kvs : List (Key × V)} (nd : (kvs.map (·.1)).Nodup) {p : Key × V} (h : p ∈ kvs) : valV kvs p.1 = some p.2 := by
  induction kvs with
  | nil => cases h
  | cons x r ih =>
    rw [List.map_cons, List.nodup_cons] at nd
    rcases List.mem_cons.mp h with e | m
    · rw [e]; exact valV_pos rfl
    · rw [valV_neg (fun e => nd.1 (e ▸ List.mem_map_of_mem m))]
      exact ih nd.2 m
theorem in_valV {kvs : List (Key × V)} {k : Key} (h : k ∈ kvs.map (·.1)) : valV kvs k ≠ none := fun e => valV_not e h
theorem MRep.same {kvs kvs' : List (Key × V)} {f : Nat → Option Nat} {M : Int → Prop} {last : Nat} (h : MRep kvs f M last) (h' : MRep kvs' f M last) {k : Key} (hk : (∃ c, c < 127 ∧ k = lkey c) ∨ ∃ m : Int, k = .inl m) : valV kvs k = valV kvs' k := by
  rcases hk with ⟨c, _, rfl⟩ | ⟨m, rfl⟩
  · rw [h.vs, h'.vs]
  · by_cases y : M m
    · rw [(h.ms m).1 y, (h'.ms m).1 y]
    · rw [(h.ms m).2 y, (h'.ms m).2 y]
theorem MRep.keysub {kvs kvs' : List (Key × V)} {f : Nat → Option Nat} {M : Int → Prop} {last : Nat} (h : MRep kvs f M last) (h' : MRep kvs' f M last) (k : Key) (hk : k ∈ kvs.map (·.1)) : k ∈ kvs'.map (·.1) := by
  obtain ⟨x, hx, rfl⟩ := List.mem_map.mp hk
  have e := h.same h' (h.ks x hx)
  rw [valV_mem h.nd hx] at e
  exact valV_in e.symm
theorem MRep.len_eq {kvs kvs' : List (Key × V)} {f : Nat → Option Nat} {M : Int → Prop} {last : Nat} (h : MRep kvs f M last) (h' : MRep kvs' f M last) : kvs.length = kvs'.length := by
  have := Sam.nd_same h.nd h'.nd fun k => ⟨h.keysub h' k, h'.keysub h k⟩
  rw [List.length_map, List.length_map] at this
  exact this
theorem MRep.flat {kvs : List (Key × V)} {f : Nat → Option Nat} {M : Int → Prop} {last : Nat} (h : MRep kvs f M last) {p : Key × V} (hp : p ∈ kvs) : flatB p.2 = true := by
  have e := valV_mem h.nd hp
  rcases h.ks p hp with ⟨c, _, ec⟩ | ⟨m, em⟩
  · rw [ec, h.vs] at e
    cases ef : f c with
    | none => rw [ef] at e; cases e
    | some j =>
      rw [ef] at e
      have := Option.some.inj e
      rw [← this]
      rfl
  · rw [em] at e
    by_cases y : M m
    · rw [(h.ms m).1 y] at e
      have := Option.some.inj e
      rw [← this]
      rfl
    · rw [(h.ms m).2 y] at e
      cases e
theorem MRep.eqR {K : PySem.W.Frag} {H : Hp} {d d' : Addr} {kvs kvs' : List (Key × V)} {f : Nat → Option Nat} {M : Int → Prop} {last : Nat} (h : MRep kvs f M last) (h' : MRep kvs' f M last) (e : H d = some (.dK kvs)) (e' : H d' = some (.dK kvs')) : EqV K H 2 (.ref d) (.ref d') := by
  refine .inr (.inr (.inr ⟨d, d', kvs, kvs', rfl, rfl, e, e', h.len_eq h', fun p hp => ⟨p.2, ?_, .inl ⟨rfl, h.flat hp⟩⟩⟩))
  rw [← h.same h' (h.ks p hp)]
  exact valV_mem h.nd hp
theorem MachAt.keep {H H' H2 : Hp} {l : Addr} {L : PL} {g : Sam.G} {rep : Nat → Sam.Wd} {ds : List Addr} {dl : Addr} (M : MachAt H H' l L g rep ds dl) (s : Same H' H2) : MachAt H H2 l L g rep ds dl :=
  { M with sm := M.sm.trans s, at_ := s _ _ M.at_, hl := s _ _ M.hl, hd := fun i d e => by obtain ⟨kvs, h1, h2⟩ := M.hd i d e; exact ⟨kvs, s _ _ h1, h2⟩ }
theorem MachAt.to {H H' : Hp} {l : Addr} {L : PL} {g g' : Sam.G} {rep rep' : Nat → Sam.Wd} {ds : List Addr} {dl : Addr} (M : MachAt H H' l L g' rep' ds dl) (F : Sam.Fin (Sam.txs (hsOf L)) g rep) : MachAt H H' l L g rep ds dl := by
  have U := M.fin.uniq F
  refine { M with fin := F, ln := M.ln.trans U.n, n := U.n ▸ M.n, hd := fun i d e => ?_ }
  obtain ⟨kvs, h1, h2⟩ := M.hd i d e
  have hi : i < g'.n := by rw [← M.ln]; exact (List.getElem?_eq_some_iff.mp e).1
  refine ⟨kvs, h1, ?_⟩
  rw [← U.n]
  refine (h2.congrF fun c => U.ed i hi c).congr fun m => ?_
  unfold Mk
  rw [U.rep i hi]
theorem MachAt.dict {H H' : Hp} {l : Addr} {L : PL} {g : Sam.G} {rep : Nat → Sam.Wd} {ds : List Addr} {dl : Addr} (M : MachAt H H' l L g rep ds dl) {i : Nat} {x : V} (e : (ds.map V.ref ++ [V.ref dl])[i]? = some x) :
    (∃ d kvs, i < g.n ∧ ds[i]? = some d ∧ x = .ref d ∧ H' d = some (.dK kvs) ∧ MRep kvs (g.ed i) (Mk (hsOf L) rep (hsOf L).length i) g.n) ∨ (i = g.n ∧ x = .ref dl) := by
  by_cases h : i < ds.length
  · rw [List.getElem?_append_left (by rw [List.length_map]; exact h), List.getElem?_map, List.getElem?_eq_getElem h] at e
    have := Option.some.inj e
    obtain ⟨kvs, h1, h2⟩ := M.hd i ds[i] (List.getElem?_eq_getElem h)
    exact .inl ⟨ds[i], kvs, by rw [← M.ln]; exact h, List.getElem?_eq_getElem h, this.symm, h1, h2⟩
  · have h2 := (List.getElem?_eq_some_iff.mp e).1
    rw [List.length_append, List.length_map] at h2
    have h3 : i < ds.length + 1 := h2
    have h4 : i = ds.length := by omega
    subst h4
    rw [List.getElem?_append_right (by rw [List.length_map]; exact Nat.le_refl _), List.length_map, Nat.sub_self] at e
    exact .inr ⟨M.ln, (Option.some.inj e).symm⟩
theorem MachAt.eqs {K : PySem.W.Frag} {H1 H2 H' : Hp} {l l' : Addr} {L : PL} {g : Sam.G} {rep : Nat → Sam.Wd} {ds ds' : List Addr} {dl dl' : Addr} (M : MachAt H1 H' l L g rep ds dl) (M' : MachAt H2 H' l' L g rep ds' dl') : Paired (EqV K H' 2) (ds.map V.ref ++ [V.ref dl]) (ds'.map V.ref ++ [V.ref dl']) := by
  refine paired_of (by rw [List.length_append, List.length_append, List.length_map, List.length_map, M.ln, M'.ln]; rfl) fun i x y e e' => ?_
  rcases M.dict e with ⟨d, kvs, hi, _, rfl, h1, h2⟩ | ⟨hi, rfl⟩
  · rcases M'.dict e' with ⟨d', kvs', _, _, rfl, h3, h4⟩ | ⟨hi', _⟩
    · exact h2.eqR h4 h1 h3
    · omega
  · rcases M'.dict e' with ⟨d', kvs', hi', _⟩ | ⟨_, rfl⟩
    · omega
    · exact .inr (.inr (.inr ⟨dl, dl', [], [], rfl, rfl, M.hl, M'.hl, rfl, fun p hp => nomatch hp⟩))
/-- the numbers of entries -/
theorem MachAt.lens {H1 H2 H' : Hp} {l l' : Addr} {L : PL} {g : Sam.G} {rep : Nat → Sam.Wd} {ds ds' : List Addr} {dl dl' : Addr} (M : MachAt H1 H' l L g rep ds dl) (M' : MachAt H2 H' l' L g rep ds' dl') : ∃ ls, LensAt H' (ds ++ [dl]) ls ∧ LensAt H' (ds' ++ [dl']) ls := by
  let f : Addr → Nat := fun d => match H' d with
    | some (.dK kvs) => kvs.length
    | _ => 0
  have fd : ∀ {d : Addr} {kvs : List (Key × V)}, H' d = some (.dK kvs) → f d = kvs.length := fun {d kvs} e => by
    show (match H' d with | some (.dK kvs) => kvs.length | _ => 0) = _
    rw [e]
  have key : ∀ (ds : List Addr) (dl : Addr) (i : Nat) (x : Addr), (ds ++ [dl])[i]? = some x → (ds.map V.ref ++ [V.ref dl])[i]? = some (.ref x) := fun ds dl i x e => by
    have : ds.map V.ref ++ [V.ref dl] = (ds ++ [dl]).map V.ref := by rw [List.map_append]; rfl
    rw [this, List.getElem?_map, e]
    rfl
  refine ⟨(ds ++ [dl]).map f, ⟨(List.length_map ..).symm, fun i d n e e2 => ?_⟩, ⟨by rw [List.length_map, List.length_append, List.length_append, M.ln, M'.ln]; rfl, fun i d n e e2 => ?_⟩⟩
  · rw [List.getElem?_map, e] at e2
    have e3 := Option.some.inj e2
    rcases M.dict (key _ _ _ _ e) with ⟨d', kvs, _, _, e4, h1, _⟩ | ⟨_, e4⟩
    · cases e4
      exact ⟨kvs, h1, by rw [← e3, fd h1]⟩
    · cases e4
      exact ⟨[], M.hl, by rw [← e3, fd M.hl]⟩
  · rw [List.getElem?_map] at e2
    cases e5 : (ds ++ [dl])[i]? with
    | none => rw [e5] at e2; cases e2
    | some d2 =>
      rw [e5] at e2
      have e3 := Option.some.inj e2
      rcases M'.dict (key _ _ _ _ e) with ⟨d', kvs, hi, _, e4, h1, h2⟩ | ⟨hi, e4⟩
      · cases e4
        rcases M.dict (key _ _ _ _ e5) with ⟨d3, kvs3, _, _, e6, h3, h4⟩ | ⟨hi', _⟩
        · cases e6
          exact ⟨kvs, h1, by rw [← e3, fd h3, h2.len_eq h4]⟩
        · omega
      · cases e4
        rcases M.dict (key _ _ _ _ e5) with ⟨d3, kvs3, hi', _⟩ | ⟨_, e6⟩
        · omega
        · cases e6
          exact ⟨[], M'.hl, by rw [← e3, fd M.hl]⟩
/-! states as data -/
def dOpt : Option Nat → PyData
  | none => .none
  | some j => .int (j : Int)
def dRow (L : PL) (g : Sam.G) (rep : Nat → Sam.Wd) (k : Nat) : PyData := .tuple [.str (SX.S (Sam.mw g rep k)), .str (SX.S (rep k)), dPts (Sam.plc (hsOf L) (rep k)), dOpt (g.lk k)]
def dStates (L : PL) (g : Sam.G) (rep : Nat → Sam.Wd) : PyData := .list ((List.range g.n).map (dRow L g rep))
theorem dp_opt {K : PySem.W.Frag} {H : Hp} (o : Option Nat) : Dp K H (optN o) (dOpt o) := by
  cases o with
  | none => exact .non
  | some j => exact .int _
theorem dpAll_of {K : PySem.W.Frag} {H : Hp} : ∀ {vs : List V} {ds : List PyData}, vs.length = ds.length → (∀ (i : Nat) (v : V) (d : PyData), vs[i]? = some v → ds[i]? = some d → Dp K H v d) → DpAll K H vs ds
  | [], [], _, _ => .nil
  | [], _ :: _, h, _ => by cases h
  | _ :: _, [], h, _ => by cases h
  | v :: vs, d :: ds, h, k => .cons (k 0 v d rfl rfl) (dpAll_of (Nat.succ.inj h) fun i a b h1 h2 => k (i + 1) a b h1 h2)
theorem StAt.to {H H' : Hp} {l : Addr} {L : PL} {g g' : Sam.G} {rep rep' : Nat → Sam.Wd} {ts rs : List Addr} (S : StAt H H' l L g' rep' ts rs) (F : Sam.Fin (Sam.txs (hsOf L)) g rep) : StAt H H' l L g rep ts rs := by
  have U := S.fin.uniq F
  refine { S with fin := F, lt := S.lt.trans U.n, lr := S.lr.trans U.n, row := fun k t r e1 e2 => ?_ }
  obtain ⟨h1, R, h2, h3, h4⟩ := S.row k t r e1 e2
  have hk : k < g'.n := by rw [← S.lt]; exact (List.getElem?_eq_some_iff.mp e1).1
  rw [U.mw k hk, U.rep k hk, U.lk k hk] at h1
  rw [U.rep k hk] at h4
  exact ⟨h1, R, h2, h3, h4⟩
theorem dp_states {K : PySem.W.Frag} {H H' : Hp} {l : Addr} {L : PL} {g : Sam.G} {rep : Nat → Sam.Wd} {ts rs : List Addr} (S : StAt H H' l L g rep ts rs) : Dp K H' (.ref l) (dStates L g rep) := by
  refine .lst (SqL.of S.at_) (dpAll_of (by rw [List.length_map, List.length_map, List.length_range, S.lt]) fun i v d e1 e2 => ?_)
  have hi : i < ts.length := by have := (List.getElem?_eq_some_iff.mp e1).1; rwa [List.length_map] at this
  have hg : i < g.n := by rw [← S.lt]; exact hi
  rw [List.getElem?_map, List.getElem?_eq_getElem hi] at e1
  rw [List.getElem?_map, List.getElem?_range hg] at e2
  have e1 := Option.some.inj e1
  have e2 := Option.some.inj e2
  subst e1 e2
  have hr : i < rs.length := by rw [S.lr]; exact hg
  obtain ⟨h1, R, h2, h3, h4⟩ := S.row i ts[i] rs[i] (List.getElem?_eq_getElem hi) (List.getElem?_eq_getElem hr)
  refine .tup (.inl (.inl h1)) (.cons (.str _) (.cons (.str _) (.cons ?_ (.cons (dp_opt _) .nil))))
  rw [← h4]
  exact dp_pts h2 h3
def okW (w : Sam.Wd) : Prop := PyData.strOk (SX.S w) = true
theorem dRow_lay {L : PL} {g : Sam.G} {rep : Nat → Sam.Wd} {k : Nat} (h1 : okW (Sam.mw g rep k)) (h2 : okW (rep k)) : (dRow L g rep k).canLay0 = true := by
  show (PyData.strOk _ && (PyData.strOk _ && ((dPts _).canLay0 && ((dOpt _).canLay0 && true)))) = true
  have e3 : (dPts (Sam.plc (hsOf L) (rep k))).canLay0 = true := dPts_lay _
  have e4 : (dOpt (g.lk k)).canLay0 = true := by cases g.lk k <;> rfl
  rw [h1, h2, e3, e4]
  rfl
theorem dStates_lay {L : PL} {g : Sam.G} {rep : Nat → Sam.Wd} : ∀ (l : List Nat), (∀ k ∈ l, okW (Sam.mw g rep k) ∧ okW (rep k)) → PyData.canLayAll0 (l.map (dRow L g rep)) = true
  | [], _ => rfl
  | k :: r, h => by
    rw [List.map_cons, PyData.canLayAll0, dStates_lay r fun x m => h x (List.mem_cons_of_mem _ m)]
    obtain ⟨h1, h2⟩ := h k (List.mem_cons_self ..)
    rw [dRow_lay h1 h2]
    rfl
theorem dRow_depth (L : PL) (g : Sam.G) (rep : Nat → Sam.Wd) (k : Nat) : (dRow L g rep k).depth ≤ 3 := by
  have h1 := dPts_deep (Sam.plc (hsOf L) (rep k))
  have h2 : (dOpt (g.lk k)).depth = 0 := by cases g.lk k <;> rfl
  show max 0 (max 0 (max (PyData.depthAll _ + 1) (max (dOpt (g.lk k)).depth 0))) + 1 ≤ 3
  omega
theorem dStates_depth {L : PL} {g : Sam.G} {rep : Nat → Sam.Wd} : ∀ (l : List Nat), PyData.depthAll (l.map (dRow L g rep)) ≤ 3
  | [] => Nat.zero_le _
  | k :: r => by
    rw [List.map_cons, PyData.depthAll]
    have := dStates_depth (L := L) (g := g) (rep := rep) r
    have := dRow_depth L g rep k
    omega
theorem dStates_ok {L : PL} {g : Sam.G} {rep : Nat → Sam.Wd} (h : ∀ k, k < g.n → okW (Sam.mw g rep k) ∧ okW (rep k)) : SeqAt.shaped (dStates L g rep) = true ∧ PyData.eqv (dStates L g rep) (dStates L g rep) = true := by
  have e1 : (dStates L g rep).canLay0 = true := dStates_lay _ fun k hk => h k (List.mem_range.mp hk)
  have e2 : (dStates L g rep).depth ≤ 64 := by
    show PyData.depthAll _ + 1 ≤ 64
    have := dStates_depth (L := L) (g := g) (rep := rep) (List.range g.n)
    omega
  refine ⟨?_, SeqAt.eqv_refl _ e1⟩
  unfold SeqAt.shaped
  rw [e1, decide_eq_true e2]
  rfl
theorem okW_inner {L : PL} (ok : HouseOk L) {w : Sam.Wd} (h : Sam.Inner (Sam.txs (hsOf L)) w) : okW w := by
  have : ∀ c ∈ w, c < 127 := fun c hc => by
    obtain ⟨t, ht, x, y, e⟩ := h
    rcases List.mem_cons.mp ht with z | m
    · rw [z] at e
      have := congrArg List.length e
      simp at this
      have : w = [] := List.eq_nil_of_length_eq_zero (by omega)
      rw [this] at hc
      cases hc
    · obtain ⟨q, hq, rfl⟩ := List.mem_map.mp m
      obtain ⟨t, ht2, rfl⟩ := List.mem_map.mp hq
      have hl := (ok.txt t ht2).1
      refine okc_lt (List.all_eq_true.mp hl c ?_)
      have : c ∈ TL.tl t.2.2 := by
        have e : TL.tl t.2.2 = x ++ w ++ y := e
        rw [e]
        exact List.mem_append_left _ (List.mem_append_right _ hc)
      exact this
  unfold okW PyData.strOk
  rw [← Array.all_toList]
  refine List.all_eq_true.mpr fun c hc => ?_
  have hc' : c ∈ w := by
    have e : TL.tl (SX.S w) = w := TL.tl_mk w
    rw [← e]
    exact hc
  have := this c hc'
  exact decide_eq_true (by omega)

end SH

set_option Elab.async false
set_option linter.all false
set_option maxRecDepth 100000
set_option maxHeartbeats 4000000
namespace SH
open PySem PySem.Spec PyProof.Rows L2
section
variable {P : Program} {w : World} {K : PySem.W.Frag} {mg : Str → Option Value} {base : Heap} {ea : Ea}
theorem houseOk_of {L : PL} {m : Nat} (h : IsHs m (L.map (·.2))) (hm : m ≤ 40) (hl : L.length ≤ 8) (hc : L.length * m < 64) : HouseOk L := by
  refine ⟨?_, fun q hq => ?_, hl, L.flatMap fun q => TL.tl q.2.2, ?_, fun q hq c hc => List.mem_flatMap.mpr ⟨q, hq, hc⟩⟩
  · have := h.asc
    rw [List.map_map] at this
    exact this
  · have := h.txt q.2 (List.mem_map_of_mem hq)
    exact ⟨this.1, by omega⟩
  · have key : ∀ l : PL, (∀ q ∈ l, q.2.2.length ≤ m) → (l.flatMap fun q => TL.tl q.2.2).length ≤ l.length * m := by
      intro l
      induction l with
      | nil => exact fun _ => Nat.zero_le _
      | cons x r ih =>
        intro k
        rw [List.flatMap_cons, List.length_append, List.length_cons, Nat.succ_mul, tlen]
        have := ih fun q hq => k q (List.mem_cons_of_mem _ hq)
        have := k x (List.mem_cons_self ..)
        omega
    exact Nat.lt_of_le_of_lt (key L fun q hq => (h.txt q.2 (List.mem_map_of_mem hq)).2) hc
def spLaw (K : PySem.W.Frag) : Sp := fun vs H Q _ => ∃ (a : Addr) (ns : List Int), vs = [.ref a] ∧ SqL K H a (ns.map V.int) ∧ ns.length ≤ 63 ∧ ∀ H', Q (.bl true) H'
theorem dp_rest {K : PySem.W.Frag} {H : Hp} {D : Addr} {L : PL} {g : Sam.G} {rep : Nat → Sam.Wd} {R : RT} {us : List Addr} (RO : RowsOk L g rep R) (rR : RAt H R) (hD : H D = some (.lst (us.map V.ref))) (hl : us.length = g.n)
    (hu : ∀ (k : Nat) (u : Addr), us[k]? = some u → ∃ q, R[k]? = some q ∧ H u = some (.tup [.str (SX.S q.2.1), .str (SX.S q.2.2.1), .ref q.2.2.2.1, optN (g.lk k)])) : Dp K H (.ref D) (dStates L g rep) := by
  refine .lst (SqL.of hD) (dpAll_of (by rw [List.length_map, List.length_map, List.length_range, hl]) fun i v d e1 e2 => ?_)
  have hi : i < us.length := by have := (List.getElem?_eq_some_iff.mp e1).1; rwa [List.length_map] at this
  have hg : i < g.n := by omega
  rw [List.getElem?_map, List.getElem?_eq_getElem hi] at e1
  rw [List.getElem?_map, List.getElem?_range hg] at e2
  have e1 := Option.some.inj e1
  have e2 := Option.some.inj e2
  subst e1 e2
  obtain ⟨q, eq, h1⟩ := hu i us[i] (List.getElem?_eq_getElem hi)
  obtain ⟨_, e3, e4, e5⟩ := RO.at_ eq
  obtain ⟨_, h2, h3⟩ := rR q (List.mem_of_getElem? eq)
  rw [e3, e4] at h1
  refine .tup (.inl (.inl h1)) (.cons (.str _) (.cons (.str _) (.cons ?_ (.cons (dp_opt _) .nil))))
  rw [← e5]
  exact dp_pts h2 h3
theorem sc_law : FnScope ["script", "draws", "house", "kept", "rows", "due", "told", "found", "rest", "k", "row"] ["script"] (defScope s_law) := ⟨rfl, rfl, rfl, by decide +kernel, rfl, by decide +kernel, by decide +kernel⟩
theorem ok_law (T : Txt K mg ea) {f : Addr} {fd : FuncData} (F0 : Fun K "law" "law" s_law f fd) (c__law_draws : Cl P w K mg base 1 "_law_draws" (spDraws K)) (c__law_at : Cl P w K mg base 1 "_law_at" (spDraw K)) (c__law_house : Cl P w K mg base 3 "_law_house" (spHouse K)) (c__law_long : Cl P w K mg base 2 "_law_long" (spLong K))
    (c__law_classes : Cl P w K mg base 3 "_law_classes" (spClasses K)) (c_machine : Cl P w K mg base 7 "machine" (spMachine K)) (c_states : Cl P w K mg base 7 "states" (spStates K)) (c_edge_count : Cl P w K mg base 1 "edge_count" spCount)
    (c__law_edges : Cl P w K mg base 3 "_law_edges" (spEdges K)) (c__law_link : Cl P w K mg base 1 "_law_link" (spLinkL K)) :
    FnOk P w K mg base CX0 8 f fd ["script"] (spLaw K) := by
  have nd := sc_law.nd
  refine F0.ok sc_law (fun vs H Q E h => ?_) (fun cdv A outer s H vs Q E hr h => ?_)
  · obtain ⟨a, ns, rfl, _⟩ := h
    rfl
  · obtain ⟨a, ns, rfl, hS, hl, q⟩ := h
    refine ⟨_, (pss_cons (ps_set (i := 1) nd rfl (.inl rfl) (C8.pe_c c__law_draws hr (by decide) (by rfl) (pa_cons (pv 0) pa_nil)))
      (pss_cons (ps_set (i := 2) nd rfl (.inl rfl) (C8.pe_c c__law_house hr (by decide) (by rfl) (pa_cons (pv 1) (pa_cons pe_int (pa_cons pe_int (pa_cons pe_int pa_nil))))))
      (C8.pss_cut (ps_if (pt_cmpR op_eq (C8.pe_c c__law_at hr (by decide) (by rfl) (pa_cons (pv 1) (pa_cons pe_int (pa_cons pe_int pa_nil)))) pe_int (nomark _))
        (pss_one (ps_set (i := 2) nd rfl (.inl rfl) (C8.pe_c c__law_long hr (by decide) (by rfl) (pa_cons (pv 1) (pa_cons pe_int pa_nil)))))
        pss_nil)
      (pss_cons (ps_set (i := 3) nd rfl (.inl rfl) (pe_callTy call_list_of (by rfl) T.b_list (by decide +kernel) (pa_cons (pv 2) pa_nil)))
      (pss_cons (ps_set (i := 4) nd rfl (.inr rfl) (C8.pe_c c__law_classes hr (by decide) (by rfl) (pa_cons (pv 3) pa_nil)))
      (pss_cons (ps_if (pt_cmpR op_eq (pe_callB call_len_seq (by rfl) T.b_len PySem.boot_len (pa_cons (pv 4) pa_nil)) pe_int (nomark _))
        (pss_one (ps_ret (pe_and (pe_cmpR (op_eqVK (K := K) hr.units) (C8.pe_c c_machine hr (by decide) (by rfl) (pa_cons (pv 2) pa_nil)) (pe_lst (pa_cons pe_dnewK pa_nil)) (nomark _)) (pe_and (pe_cmpR (op_eqDK (K := K) hr.units) (C8.pe_c c_states hr (by decide) (by rfl) (pa_cons (pv 2) pa_nil)) (pe_lst (pa_cons (pe_tup (pa_cons pe_str (pa_cons pe_str (pa_cons (pe_lst pa_nil) (pa_cons pe_non pa_nil))))) pa_nil)) (nomark _)) (pe_one (pe_cmpR op_eq (C8.pe_c c_edge_count hr (by decide) (by rfl) (pa_cons (C8.pe_c c_machine hr (by decide) (by rfl) (pa_cons (pv 2) pa_nil)) pa_nil)) pe_int (nomark _)))))))
        pss_nil)
      (pss_cons (ps_set (i := 5) nd rfl (.inl rfl) (C8.pe_c c__law_edges hr (by decide) (by rfl) (pa_cons (pv 3) (pa_cons (pv 4) pa_nil))))
      (pss_cons (ps_set (i := 6) nd rfl (.inl rfl) (C8.pe_c c_machine hr (by decide) (by rfl) (pa_cons (pv 2) pa_nil)))
      (pss_cons (ps_if (PW.pt (pw_or (pt_not (pt_val (pe_callB call_isi (by rfl) T.b_isinstance (by decide +kernel) (pa_cons (pv 6) (pa_cons (pe_bltn (v := .ty "list") (by rfl) T.b_list (by decide +kernel) rfl) pa_nil))))) (pw_or (pt_cmpR (op_neVK (K := K) hr.units) (pv 6) (pv 5) (nomark _)) (pw_or1 (pt_cmpR (op_neDK (K := K) hr.units) (pv 2) (pv 3) (nomark _))))))
        (pss_one (ps_ret pe_bl))
        pss_nil)
      (pss_cons (ps_if (pt_cmpR op_ne (C8.pe_c c_edge_count hr (by decide) (by rfl) (pa_cons (pv 6) pa_nil)) (pe_callB (cr_sum rfl) (by rfl) T.b_sum (by decide +kernel) (pa_cons (pe_lc (own := [("row", 10)]) (g := (gName 10)) rfl nd (pi_listK (K := K) (pv 5)) (blkOk_by (own := [("row", 10)]) (N := ["script", "draws", "house", "kept", "rows", "due", "told", "found", "rest", "k", "row"]) (sc := defScope s_law) (by decide +kernel)) (fun _ _ _ _ _ => (pg_name (i := 10) nd rfl (.inl rfl))) (fun _ _ _ _ _ => pts_nil) (fun _ _ _ _ _ => (pe_callB call_lenD (by rfl) T.b_len PySem.boot_len (pa_cons (pv 10) pa_nil)))) pa_nil)) (nomark _))
        (pss_one (ps_ret pe_bl))
        pss_nil)
      (pss_cons (ps_set (i := 7) nd rfl (.inl rfl) (C8.pe_c c_states hr (by decide) (by rfl) (pa_cons (pv 2) pa_nil)))
      (pss_cons (ps_setLc (i := 8) (own := [("k", 9)]) (g := (gName 9)) rfl nd rfl rfl (sw_true rfl rfl rfl (by decide +kernel)) (pi_range1 rfl T.b_range (pa_cons (pe_callB call_len_seq (by rfl) T.b_len PySem.boot_len (pa_cons (pv 4) pa_nil)) pa_nil)) (blkOk_by (own := [("k", 9)]) (N := ["script", "draws", "house", "kept", "rows", "due", "told", "found", "rest", "k", "row"]) (sc := defScope s_law) (by decide +kernel)) (fun _ _ _ _ _ => (pg_name (i := 9) nd rfl (.inl rfl))) (fun _ _ _ _ _ => pts_nil) (fun _ _ _ _ _ => (pe_tup (pa_cons (pe_ix (ixt (K := K)) (pe_ix (ixl (K := K)) (pv 4) (pv 9) (fun _ _ => rfl)) pe_int (fun _ _ => rfl)) (pa_cons (pe_ix (ixt (K := K)) (pe_ix (ixl (K := K)) (pv 4) (pv 9) (fun _ _ => rfl)) pe_int (fun _ _ => rfl)) (pa_cons (pe_ix (ixt (K := K)) (pe_ix (ixl (K := K)) (pv 4) (pv 9) (fun _ _ => rfl)) pe_int (fun _ _ => rfl)) (pa_cons (C8.pe_c c__law_link hr (by decide) (by rfl) (pa_cons (pv 4) (pa_cons (pv 9) pa_nil))) pa_nil)))))))
      (pss_cons (ps_if (PW.pt (pw_or (pt_not (pt_val (pe_callB call_isi (by rfl) T.b_isinstance (by decide +kernel) (pa_cons (pv 7) (pa_cons (pe_bltn (v := .ty "list") (by rfl) T.b_list (by decide +kernel) rfl) pa_nil))))) (pw_or1 (pt_cmpR (op_neDK (K := K) hr.units) (pv 7) (pv 8) (nomark _)))))
        (pss_one (ps_ret pe_bl))
        pss_nil)
      (pss_cons (ps_for PassesOwn.never rfl (pi_range1 rfl T.b_range (pa_cons (pe_callB call_len_seq (by rfl) T.b_len PySem.boot_len (pa_cons (pv 4) pa_nil)) pa_nil)) (pg_name (i := 9) nd rfl (.inl rfl))
        (pss_cons (ps_if (PW.pt (pw_or (pt_not (pt_val (pe_callB call_isi (by rfl) T.b_isinstance (by decide +kernel) (pa_cons (pe_ix (ixl (K := K)) (pv 6) (pv 9) (fun _ _ => rfl)) (pa_cons (pe_bltn (v := .ty "dict") (by rfl) T.b_dict (by decide +kernel) rfl) pa_nil))))) (pw_or1 (pt_not (pt_val (pe_callB call_isi (by rfl) T.b_isinstance (by decide +kernel) (pa_cons (pe_ix (ixl (K := K)) (pv 7) (pv 9) (fun _ _ => rfl)) (pa_cons (pe_bltn (v := .ty "tuple") (by rfl) T.b_tuple (by decide +kernel) rfl) pa_nil))))))))
            (pss_one (ps_ret pe_bl))
            pss_nil)
          (pss_cons (ps_dput (hu_of hr) (pe_ix (ixl (K := K)) (pv 6) (pv 9) (fun _ _ => rfl)) pe_str pe_int rfl)
          (pss_one (ps_expr (pe_bm PySem.F.plainAttrs_list PySem.F.slot_list_append PySem.F.type_list_append mt_append (pe_ix (ixt (K := K)) (pe_ix (ixl (K := K)) (pv 7) (pv 9) (fun _ _ => rfl)) pe_int (fun _ _ => rfl)) (pa_cons pe_int pa_nil)))))))
      (pss_one (ps_ret (pe_and (pe_cmpR (op_eqVK (K := K) hr.units) (C8.pe_c c_machine hr (by decide) (by rfl) (pa_cons (pv 2) pa_nil)) (pv 5) (nomark _)) (pe_and (pe_cmpR (op_eqDK (K := K) hr.units) (C8.pe_c c_states hr (by decide) (by rfl) (pa_cons (pv 2) pa_nil)) (pv 8) (nomark _)) (pe_one (pe_cmpR (op_eqDK (K := K) hr.units) (pv 2) (pv 3) (nomark _))))))))))))))))))))), ?_⟩
    refine ⟨_, rfl, a, ns, rfl, hS, hl, fun dr ds H1 s1 nd1 at1 hD => ?_⟩
    have hS1 : SqL K H1 dr (ds.map V.int) := .inl (.inl at1)
    refine ⟨_, rfl, dr, ds, 4, 5, 8, rfl, hS1, hD, by omega, by omega, by omega, by omega, fun hp L H2 s2 nh at2 hpr hlen hh => ?_⟩
    refine ⟨fun σ H3 => ∃ (p : Addr) (L : PL), σ = [some (.ref a), some (.ref dr), some (.ref p), none, none, none, none, none, none, none, none] ∧ H3 p = some (.lst (refs L)) ∧ PairsAt K H3 L ∧ HouseOk L, ?_, ?_⟩
    · refine ⟨_, rfl, dr, ds, 2, 8, rfl, s2.seq hS1, hD, by omega, by omega, by omega, fun r _ _ => ⟨rfl, _, rfl, ite2 (fun e => ?_) (fun e => ?_)⟩⟩
      · exact ⟨_, rfl, dr, ds, 4, rfl, s2.seq hS1, hD, by omega, by omega, fun p L H' s n at_ hp ok => ⟨p, L, rfl, at_, hp, ok⟩⟩
      · exact ⟨hp, L, rfl, at2, hpr, houseOk_of hh (by omega) (by omega) (by
          have := Nat.mul_le_mul_right 8 hlen
          omega)⟩
    rintro σ' H3 ⟨hp, L, rfl, at3, hpr3, ok⟩
    have lets : LetAll (L.map (·.2)) := fun q hq => by
      obtain ⟨t, ht, rfl⟩ := List.mem_map.mp hq
      exact (ok.txt t ht).1
    -- kept
    refine ⟨_, rfl, hp, _, rfl, .inl (SqL.of at3), fun kp nk => ?_⟩
    have s4 := same_new (o := .lst (refs L)) nk
    generalize e0 : upd H3 kp (.lst (refs L)) = H0 at s4 ⊢
    have hA0 : HsAt K H0 hp L := ⟨SqL.of (s4 _ _ at3), hpr3.same s4⟩
    have hK0 : HsAt K H0 kp L := ⟨SqL.of (by rw [← e0]; exact upd_same), hpr3.same s4⟩
    by_cases hl0 : L = []
    · -- an empty house
      refine ⟨_, rfl, kp, L, rfl, hK0, ok, fun _ H5 rl s5 nrl atr => ?_, fun z => absurd hl0 z⟩
      refine ⟨_, rfl, rl, _, rfl, .inl (SqL.of atr), rfl, _, rfl, ite2 (fun _ => ?_) (fun e => absurd (decide_eq_true rfl) e)⟩
      refine ⟨_, rfl, hp, L, rfl, hA0.same s5, ok, fun _ H6 l d s6 nl nd' atl atd => ?_, fun z => absurd hl0 z⟩
      refine fun d2 nd2 => ⟨(by show 1 ≤ sizeLine; decide), fun l2 nl2 => ?_⟩
      have s7 := same_new (o := .dK []) nd2
      have s8 := same_new (o := .lst [.ref d2]) nl2
      refine ⟨2, by decide, .inl ⟨l, l2, _, _, rfl, rfl, SqL.of (s8 _ _ (s7 _ _ atl)), SqL.of upd_same, .cons (.inr (.inr (.inr ⟨d, d2, [], [], rfl, rfl, s8 _ _ (s7 _ _ atd), s8 _ _ upd_same, rfl, fun p hp => nomatch hp⟩))) .nil⟩, ?_⟩
      have s08 := ((s5.trans s6).trans s7).trans s8
      refine ⟨_, rfl, ?_⟩
      refine ⟨_, rfl, hp, L, rfl, hA0.same s08, ok, fun _ H9 l3 t3 r3 s9 at9 att9 atr9 => ?_, fun z => absurd hl0 z⟩
      refine ⟨Nat.zero_le _, fun r4 nr4 => ⟨(by show 4 ≤ sizeLine; decide), fun t4 nt4 => ⟨(by show 1 ≤ sizeLine; decide), fun l4 nl4 => ?_⟩⟩⟩
      have s10 := same_new (o := .lst []) nr4
      have s11 := same_new (o := .tup [.str "", .str "", .ref r4, .non]) nt4
      have s12 := same_new (o := .lst [.ref t4]) nl4
      have sh : SeqAt.shaped (.list [.tuple [.str "", .str "", .list [], .none]]) = true := by decide +kernel
      have ev : PyData.eqv (.list [.tuple [.str "", .str "", .list [], .none]]) (.list [.tuple [.str "", .str "", .list [], .none]]) = true := by decide +kernel
      refine ⟨.list [.tuple [.str "", .str "", .list [], .none]], .list [.tuple [.str "", .str "", .list [], .none]],
        .lst (SqL.of (s12 _ _ (s11 _ _ (s10 _ _ at9)))) (.cons (.tup (.inl (.inl (s12 _ _ (s11 _ _ (s10 _ _ att9))))) (.cons (.str _) (.cons (.str _) (.cons (.lst (SqL.of (s12 _ _ (s11 _ _ (s10 _ _ atr9)))) .nil) (.cons .non .nil))))) .nil),
        .lst (SqL.of upd_same) (.cons (.tup (.inl (.inl (s12 _ _ upd_same))) (.cons (.str _) (.cons (.str _) (.cons (.lst (SqL.of (s12 _ _ (s11 _ _ upd_same))) .nil) (.cons .non .nil))))) .nil), sh, sh, ?_⟩
      rw [ev]
      have s012 := (((s08.trans s9).trans s10).trans s11).trans s12
      refine ⟨_, rfl, ?_⟩
      refine ⟨_, rfl, hp, L, rfl, hA0.same s012, ok, fun _ H13 l5 d5 s13 nl5 nd5 atl5 atd5 => ?_, fun z => absurd hl0 z⟩
      refine ⟨l5, [d5], [0], rfl, atl5, ⟨rfl, fun i d n e1 e2 => ?_⟩, (by show 1 ≤ 30000; decide), fun H14 s14 => ?_⟩
      · have : i = 0 := by
          have := (List.getElem?_eq_some_iff.mp e1).1
          have h : i < 1 := this
          omega
        subst this
        cases e1
        cases e2
        exact ⟨[], atd5, rfl⟩
      · exact ⟨rfl, q _⟩
    -- the classes
    obtain ⟨g, rep, F⟩ := Sam.fin_ex (hsOf L)
    have I := F.inv
    refine ⟨_, rfl, kp, L, rfl, hK0, ok, fun z => absurd z hl0, fun _ => ⟨g, rep, F, fun H5 rl R s5 nrl atr rR eR Rl => ?_⟩⟩
    have RO : RowsOk L g rep R := ⟨F, eR, by
      have := congrArg List.length eR
      rw [rowsOf_len, List.length_map, List.length_range] at this
      omega⟩
    have rrl : (rrefs R).length = g.n := by rw [rrefs_len, RO.len]
    have gn := RO.n
    have n0 := I.n0
    refine ⟨_, rfl, rl, _, rfl, .inl (SqL.of atr), rfl, _, rfl, ite2 (fun e => ?_) (fun _ => ?_)⟩
    · have := V.int.inj (of_decide_eq_true e)
      rw [rrl] at this
      omega
    have t40 : ∀ q ∈ L, q.2.2.length ≤ 40 := fun q hq => (ok.txt q hq).2
    have in40 : ∀ {u : Sam.Wd}, Sam.Inner (Sam.txs (hsOf L)) u → u.length ≤ 40 := fun {u} h => inner_len (fun x hx => by
      rcases List.mem_cons.mp hx with z | m
      · rw [z]; exact Nat.zero_le _
      · obtain ⟨y, hy, rfl⟩ := List.mem_map.mp m
        obtain ⟨t, ht, rfl⟩ := List.mem_map.mp hy
        show (TL.tl t.2.2).length ≤ 40
        rw [tlen]
        exact t40 t ht) h
    have r40 : ∀ i, i < g.n → (rep i).length ≤ 40 := fun i hi => in40 (I.mem hi).inner
    have okw : ∀ k, k < g.n → okW (Sam.mw g rep k) ∧ okW (rep k) := fun k hk => ⟨okW_inner ok (I.mw_ext hk).inner, okW_inner ok (I.mem hk).inner⟩
    obtain ⟨shS, evS⟩ := dStates_ok okw
    -- due
    refine ⟨_, rfl, _, rfl, kp, rl, L, g, rep, R, rfl, hK0.same s5, ok, hl0, atr, rR, RO, fun H6 ul ud ue M6 => ?_⟩
    have s6 := M6.sm
    have hA6 := (hA0.same s5).same s6
    have hK6 := (hK0.same s5).same s6
    have atr6 := s6 _ _ atr
    have rR6 := rR.same s6
    -- told
    refine ⟨_, rfl, hp, L, rfl, hA6, ok, fun z => absurd z hl0, fun _ H7 tl g' rep' td te M7' => ?_⟩
    have M7 := M7'.to F
    have s7 := M7.sm
    have M67 := M6.keep s7
    refine ⟨_, rfl, _, _, _, _, true, rfl, .ty "list", .base (.lst M7.at_), kit_ty (by decide +kernel), _, rfl, iteF ?_⟩
    refine ⟨_, rfl, _, rfl, 2, tl, ul, _, _, by decide, rfl, rfl, SqL.of M7.at_, SqL.of M67.at_, M7.eqs M67, _, rfl, iteF ?_⟩
    refine ⟨_, rfl, _, rfl, _, _, dp_house (hA6.same s7), dp_house (hK6.same s7), dH_shaped lets, dH_shaped lets, ?_⟩
    rw [dH_refl lets]
    refine ⟨_, rfl, iteF ?_⟩
    -- the numbers of edges
    obtain ⟨ls, ls1, ls2⟩ := M7.lens M67
    have tdl : (td ++ [te]).map V.ref = td.map V.ref ++ [V.ref te] := by rw [List.map_append]; rfl
    have udl : (ud ++ [ue]).map V.ref = ud.map V.ref ++ [V.ref ue] := by rw [List.map_append]; rfl
    have tdn : (td ++ [te]).length ≤ 30000 := by rw [List.length_append, M7.ln]; show _ + 1 ≤ _; omega
    have udn : (ud ++ [ue]).length ≤ 30000 := by rw [List.length_append, M6.ln]; show _ + 1 ≤ _; omega
    refine ⟨_, rfl, tl, td ++ [te], ls, rfl, by rw [tdl]; exact M7.at_, ls1, tdn, fun H8 s8 => ?_⟩
    refine ⟨_, rfl, ul, rfl, ⟨_, SqL.of (s8 _ _ M67.at_)⟩, fun D0 nD0 => ?_⟩
    refine lc_w (walk_list (xs := (ud ++ [ue]).map V.ref)) nD0 (by rw [List.length_map]; omega) (fun H' e => SqL.of (e _ _ (s8 _ _ (by rw [udl]; exact M67.at_)))) (fun i acc _ => acc = ((ls.take i).map fun (n : Nat) => (n : Int)).map V.int) (fun _ _ => rfl) (fun _ _ _ _ _ _ _ r => r) (fun i H x H' y => by rw [y.1]; exact Same.refl _)
      (fun i x acc HA HB Qn Qf hi sm y r at_ kn kf => ?_) (fun acc H9 s9 at9 _ ra => ?_)
    · obtain ⟨rfl, hx⟩ := y
      rw [List.length_map] at hi
      have e : (ud ++ [ue])[i]? = some (ud ++ [ue])[i] := List.getElem?_eq_getElem hi
      have hi2 : i < ls.length := by rw [← ls2.1]; exact hi
      have e2 : ls[i]? = some ls[i] := List.getElem?_eq_getElem hi2
      generalize (ud ++ [ue])[i] = d at e
      generalize ls[i] = n at e2
      rw [List.getElem?_map, e] at hx
      have hx := Option.some.inj hx
      subst hx
      obtain ⟨kvs, h2, h3⟩ := ls2.2 i d n e e2
      refine ⟨rfl, _, rfl, d, kvs, rfl, sm _ _ (s8 _ _ h2), ?_⟩
      refine kn _ _ (Same.refl _) ?_
      rw [r, List.take_add_one, e2, List.map_append, List.map_append, h3]
      rfl
    rw [List.length_map, List.take_of_length_le (by rw [← ls2.1]; exact Nat.le_refl _)] at ra
    refine ⟨D0, _, rfl, SqL.of (by rw [at9, ra]), rfl, _, rfl, iteNS rfl ?_⟩
    -- found
    have s69 := (s7.trans s8).trans s9
    refine ⟨_, rfl, hp, L, rfl, hA6.same s69, ok, fun z => absurd z hl0, fun _ H10 fl g2 rep2 ts rs S10' => ?_⟩
    have S10 := S10'.to F
    have s10 := S10.sm
    have s610 := s69.trans s10
    have tl10 : H10 tl = some (.lst (td.map V.ref ++ [V.ref te])) := s10 _ _ (s9 _ _ (s8 _ _ M7.at_))
    -- rest
    refine ⟨_, rfl, rl, _, rfl, .inl (SqL.of (s610 _ _ atr6)), _, rfl, by rw [rrl]; omega, by rw [rrl]; omega, fun D nD => ?_⟩
    have egn : ((rrefs R).length : Int).toNat = g.n := by rw [rrl]; omega
    refine lc_w (walk_range (lo := 0) (n := ((rrefs R).length : Int).toNat)) nD (by omega) (fun _ _ => trivial) (fun j acc H' => ∃ us : List Addr, acc = us.map V.ref ∧ us.length = j ∧ ∀ (k : Nat) (u : Addr), us[k]? = some u → ∃ q, R[k]? = some q ∧ H' u = some (.tup [.str (SX.S q.2.1), .str (SX.S q.2.2.1), .ref q.2.2.2.1, optN (g.lk k)])) (fun _ _ => ⟨[], rfl, rfl, fun k u e => by cases e⟩)
      (fun j acc HA HB l h but r => ?_) (fun i H x H' y => by rw [y.1]; exact Same.refl _) (fun j x acc HA HB Qn Qf hj sm y r at_ kn kf => ?_) (fun acc H11 s11 at11 _ rD => ?_)
    · obtain ⟨us, u1, u2, u3⟩ := r
      refine ⟨us, u1, u2, fun k u e => ?_⟩
      obtain ⟨q, e1, e2⟩ := u3 k u e
      exact ⟨q, e1, but _ _ (fun z => by rw [z, h] at e2; cases e2) e2⟩
    · obtain ⟨rfl, rfl⟩ := y
      rw [egn] at hj
      obtain ⟨us, u1, u2, u3⟩ := r
      have ej : (0 : Int) + (j : Int) = (j : Int) := by omega
      obtain ⟨q', eR', mR⟩ := RO.get hj
      have smB := s610.trans sm
      obtain ⟨k1, _, _⟩ := rR6.same smB q' mR
      have ar : atI (rrefs R) (0 + (j : Int)) = some (.ref q'.1) := by rw [ej]; exact rrefs_at eR'
      have a0 : atI [V.str (SX.S q'.2.1), V.str (SX.S q'.2.2.1), V.ref q'.2.2.2.1] 0 = some (.str (SX.S q'.2.1)) := rfl
      have a1 : atI [V.str (SX.S q'.2.1), V.str (SX.S q'.2.2.1), V.ref q'.2.2.2.1] 1 = some (.str (SX.S q'.2.2.1)) := rfl
      have a2 : atI [V.str (SX.S q'.2.1), V.str (SX.S q'.2.2.1), V.ref q'.2.2.2.1] 2 = some (.ref q'.2.2.2.1) := rfl
      have hrB := SqL.of (K := K) (smB _ _ atr6)
      refine ⟨rfl, _, rfl, _, rfl, rl, _, _, _, rfl, rfl, hrB, ar, q'.1, _, _, _, rfl, rfl, .inl (.inl k1), a0, ?_⟩
      refine ⟨_, rfl, _, rfl, rl, _, _, _, rfl, rfl, hrB, ar, q'.1, _, _, _, rfl, rfl, .inl (.inl k1), a1, ?_⟩
      refine ⟨_, rfl, _, rfl, rl, _, _, _, rfl, rfl, hrB, ar, q'.1, _, _, _, rfl, rfl, .inl (.inl k1), a2, ?_⟩
      refine ⟨_, rfl, _, rfl, rl, L, g, rep, R, j, by show [V.ref rl, V.int (0 + (j : Int))] = _; rw [ej], smB _ _ atr6, rR6.same smB, RO, hj, r40, fun HC sC => ?_⟩
      refine ⟨(by show 4 ≤ sizeLine; decide), fun u nu => ?_⟩
      have su := sC.trans (same_new (o := .tup [.str (SX.S q'.2.1), .str (SX.S q'.2.2.1), .ref q'.2.2.2.1, optN (g.lk j)]) nu)
      refine kn _ _ su ⟨us ++ [u], by rw [u1, List.map_append]; rfl, by rw [List.length_append, u2]; rfl, fun k v e => ?_⟩
      by_cases hk : k < j
      · rw [List.getElem?_append_left (by omega)] at e
        obtain ⟨q, e1, e2⟩ := u3 k v e
        exact ⟨q, e1, su _ _ e2⟩
      · have hk2 := (List.getElem?_eq_some_iff.mp e).1
        rw [List.length_append, u2] at hk2
        have hk3 : k < j + 1 := hk2
        have : k = j := by omega
        subst this
        rw [List.getElem?_append_right (by omega), u2, Nat.sub_self] at e
        cases e
        exact ⟨q', eR', upd_same⟩
    obtain ⟨us, rfl, us1, us2⟩ := rD
    rw [egn] at us1
    have s611 := s610.trans s11
    refine ⟨_, rfl, _, _, _, _, true, rfl, .ty "list", .base (.lst (s11 _ _ S10.at_)), kit_ty (by decide +kernel), _, rfl, iteF ?_⟩
    refine ⟨_, rfl, _, rfl, _, _, dp_same s11 (dp_states S10), dp_rest RO (rR6.same s611) at11 us1 us2, shS, shS, ?_⟩
    rw [evS]
    refine ⟨_, rfl, iteF ?_⟩
    -- what is changed is apart
    have nr6 : ∀ r ∈ rs, H6 r = none := fun r m => s69.free (S10.nr r m)
    have rtl : ∀ r ∈ rs, r ≠ tl := fun r m z => by
      have h1 := S10.nr r m
      rw [z, s9 _ _ (s8 _ _ M7.at_)] at h1
      cases h1
    have rs10 : ∀ k r, rs[k]? = some r → ∃ Rr : PT, H10 r = some (.lst (prefs Rr)) ∧ PAt H10 Rr ∧ Rr.map (·.2) = Sam.plc (hsOf L) (rep k) := fun k r e => by
      have hk : k < rs.length := (List.getElem?_eq_some_iff.mp e).1
      have hk2 : k < ts.length := by rw [S10.lt, ← S10.lr]; exact hk
      exact (S10.row k ts[k] r (List.getElem?_eq_getElem hk2) e).2
    have rD : ∀ r ∈ rs, r ≠ D := fun r m z => by
      obtain ⟨k, hk, e⟩ := List.getElem_of_mem m
      obtain ⟨Rr, h1, _⟩ := rs10 k r (by rw [List.getElem?_eq_getElem hk, e])
      rw [z, nD] at h1
      cases h1
    have rfl' : ∀ r ∈ rs, r ≠ fl := fun r m z => by
      obtain ⟨k, hk, e⟩ := List.getElem_of_mem m
      obtain ⟨Rr, h1, h2, _⟩ := rs10 k r (by rw [List.getElem?_eq_getElem hk, e])
      rw [z, S10.at_] at h1
      have h3 := HO.lst.inj (Option.some.inj h1)
      have ht : 0 < ts.length := by rw [S10.lt]; exact n0
      have h4 : (prefs Rr)[0]? = some (.ref ts[0]) := by rw [← h3, List.getElem?_map, List.getElem?_eq_getElem ht]; rfl
      unfold prefs at h4
      rw [List.getElem?_map] at h4
      cases e5 : Rr[0]? with
      | none => rw [e5] at h4; cases h4
      | some p0 =>
        rw [e5] at h4
        have h5 : p0.1 = ts[0] := V.ref.inj (Option.some.inj h4)
        have h6 := h2 p0 (List.mem_of_getElem? e5)
        have hr0 : 0 < rs.length := by rw [S10.lr]; exact n0
        have h7 := (S10.row 0 ts[0] rs[0] (List.getElem?_eq_getElem ht) (List.getElem?_eq_getElem hr0)).1
        rw [h5, h7] at h6
        have := congrArg List.length (HO.tup.inj (Option.some.inj h6))
        cases this
    have plcl : ∀ k, k < g.n → (Sam.plc (hsOf L) (rep k)).length ≤ 328 := fun k _ => by
      have := plc_len (w := rep k) (hs := hsOf L) fun q hq => by
        obtain ⟨t, ht, rfl⟩ := List.mem_map.mp hq
        show (TL.tl t.2.2).length ≤ 40
        rw [tlen]
        exact t40 t ht
      have h2 : (hsOf L).length = L.length := List.length_map ..
      have := ok.few
      omega
    have tdd : ∀ s d, td[s]? = some d → ∃ kvs, H7 d = some (.dK kvs) ∧ kvs.length ≤ 500 := fun s d e => by
      obtain ⟨kvs, h1, h2⟩ := M7.hd s d e
      have h9 := h2.len ((hsOf L).map (·.1)) fun m' hm' => by
        obtain ⟨k, t, _, e5, _⟩ := hm'
        exact List.mem_map.mpr ⟨_, List.mem_of_getElem? e5, rfl⟩
      rw [List.length_map] at h9
      have h3 : (hsOf L).length = L.length := List.length_map ..
      have := ok.few
      exact ⟨kvs, h1, by omega⟩
    -- changes of what is told play no part
    refine ⟨_, rfl, rl, _, rfl, .inl (SqL.of (s611 _ _ atr6)), _, rfl, by rw [rrl]; omega, by rw [rrl]; omega, ?_⟩
    refine for_range (lo := 0) (n := ((rrefs R).length : Int).toNat) (fun i σ Hx => ∃ (y9 : Option V), σ = [some (.ref a), some (.ref dr), some (.ref hp), some (.ref kp), some (.ref rl), some (.ref ul), some (.ref tl), some (.ref fl), some (.ref D), y9, none] ∧ Same H6 Hx ∧
      Hx tl = some (.lst (td.map V.ref ++ [V.ref te])) ∧ (∀ (s : Nat) (d : Addr), td[s]? = some d → ∃ kvs, Hx d = some (.dK kvs) ∧ kvs.length ≤ 500 + i) ∧
      Hx fl = some (.lst (ts.map V.ref)) ∧ (∀ (s : Nat) (t r : Addr), ts[s]? = some t → rs[s]? = some r → Hx t = some (.tup [.str (SX.S (Sam.mw g rep s)), .str (SX.S (rep s)), .ref r, optN (g.lk s)]) ∧ ∃ xs, Hx r = some (.lst xs) ∧ xs.length ≤ 500 + i) ∧
      Hx D = some (.lst (us.map V.ref)) ∧ ∀ (k : Nat) (u : Addr), us[k]? = some u → ∃ q, R[k]? = some q ∧ Hx u = some (.tup [.str (SX.S q.2.1), .str (SX.S q.2.2.1), .ref q.2.2.2.1, optN (g.lk k)]))
      ⟨none, rfl, s611, s11 _ _ tl10, fun s d e => ?_, s11 _ _ S10.at_, fun s t r e1 e2 => ?_, at11, us2⟩ (fun i σ Hx hi hW => ?_) (fun σ Hx hW => ?_)
    · obtain ⟨kvs, h1, h2⟩ := tdd s d e
      exact ⟨kvs, s11 _ _ (s10 _ _ (s9 _ _ (s8 _ _ h1))), by omega⟩
    · obtain ⟨h1, Rr, h2, h3, h4⟩ := S10.row s t r e1 e2
      have hs : s < g.n := by rw [← S10.lt]; exact (List.getElem?_eq_some_iff.mp e1).1
      refine ⟨s11 _ _ h1, _, s11 _ _ h2, ?_⟩
      have := congrArg List.length h4
      rw [List.length_map] at this
      have := plcl s hs
      rw [prefs_len]
      omega
    · obtain ⟨y9, rfl, sx, htl, htd, hfl, hts, hDx, hus⟩ := hW
      rw [egn] at hi
      have ei : (0 : Int) + (i : Int) = (i : Int) := by omega
      have i1 : i < td.length := by rw [M7.ln]; exact hi
      have i2 : i < ts.length := by rw [S10.lt]; exact hi
      have i3 : i < rs.length := by rw [S10.lr]; exact hi
      have e1 : td[i]? = some td[i] := List.getElem?_eq_getElem i1
      have e2 : ts[i]? = some ts[i] := List.getElem?_eq_getElem i2
      have e3 : rs[i]? = some rs[i] := List.getElem?_eq_getElem i3
      have m1 := List.getElem_mem i1
      have m3 := List.getElem_mem i3
      generalize td[i] = d at e1 m1
      generalize ts[i] = t at e2
      generalize rs[i] = r at e3 m3
      obtain ⟨kvs, hd, kl⟩ := htd i d e1
      obtain ⟨ht, xs, hr', xl⟩ := hts i t r e2 e3
      have ad : atI (td.map V.ref ++ [V.ref te]) (0 + (i : Int)) = some (.ref d) := by
        rw [ei]
        exact atI_nat (by rw [List.getElem?_append_left (by rw [List.length_map]; exact i1), List.getElem?_map, e1]; rfl)
      have at' : atI (ts.map V.ref) (0 + (i : Int)) = some (.ref t) := by
        rw [ei]
        exact atI_nat (by rw [List.getElem?_map, e2]; rfl)
      have a2 : atI [V.str (SX.S (Sam.mw g rep i)), V.str (SX.S (rep i)), V.ref r, optN (g.lk i)] 2 = some (.ref r) := rfl
      refine ⟨_, rfl, _, rfl, tl, _, _, _, rfl, rfl, SqL.of htl, ad, _, _, _, _, true, rfl, .ty "dict", .base (.dK hd), kit_ty (by decide +kernel), _, rfl, iteF ?_⟩
      refine ⟨_, rfl, _, rfl, fl, _, _, _, rfl, rfl, SqL.of hfl, at', _, _, _, _, true, rfl, .ty "tuple", .base (.tup ht), kit_ty (by decide +kernel), _, rfl, iteF ?_⟩
      refine ⟨_, rfl, _, rfl, tl, _, _, _, rfl, rfl, SqL.of htl, ad, d, _, rfl, DPut.k (k := .inr "zz") hd (szB (by omega)), ?_⟩
      have dn : ∀ {b : Addr} {o : HO}, Hx b = some o → (∀ kv, o ≠ .dK kv) → (upd Hx d (.dK (putK kvs (.inr "zz") (.int 0)))) b = some o := fun {b o} h n => by
        rw [upd_ne (fun z => by rw [z, hd] at h; exact n _ (Option.some.inj h).symm)]
        exact h
      have sx2 := same_mut (o := .dK (putK kvs (.inr "zz") (.int 0))) sx (M7.nd d m1)
      have htl2 := dn htl (fun _ z => by cases z)
      have hfl2 := dn hfl (fun _ z => by cases z)
      have hD2 := dn hDx (fun _ z => by cases z)
      have ht2 := dn ht (fun _ z => by cases z)
      have hr2 := dn hr' (fun _ z => by cases z)
      have htd2 : ∀ s d', td[s]? = some d' → ∃ kv, (upd Hx d (.dK (putK kvs (.inr "zz") (.int 0)))) d' = some (.dK kv) ∧ kv.length ≤ 500 + (i + 1) := fun s d' e => by
        by_cases z : d' = d
        · have := length_putK kvs (.inr "zz") (.int 0)
          exact ⟨_, by rw [z]; exact upd_same, by omega⟩
        · obtain ⟨kv, h1, h2⟩ := htd s d' e
          exact ⟨kv, by rw [upd_ne z]; exact h1, by omega⟩
      have hts2 : ∀ s t' r', ts[s]? = some t' → rs[s]? = some r' → (upd Hx d (.dK (putK kvs (.inr "zz") (.int 0)))) t' = some (.tup [.str (SX.S (Sam.mw g rep s)), .str (SX.S (rep s)), .ref r', optN (g.lk s)]) ∧ ∃ xs, (upd Hx d (.dK (putK kvs (.inr "zz") (.int 0)))) r' = some (.lst xs) ∧ xs.length ≤ 500 + i := fun s t' r' e e' => by
        obtain ⟨h1, xs', h2, h3⟩ := hts s t' r' e e'
        exact ⟨dn h1 (fun _ z => by cases z), xs', dn h2 (fun _ z => by cases z), h3⟩
      have hus2 : ∀ (k : Nat) (u : Addr), us[k]? = some u → ∃ q, R[k]? = some q ∧ (upd Hx d (.dK (putK kvs (.inr "zz") (.int 0)))) u = some (.tup [.str (SX.S q.2.1), .str (SX.S q.2.2.1), .ref q.2.2.2.1, optN (g.lk k)]) := fun k u e => by
        obtain ⟨q, h1, h2⟩ := hus k u e
        exact ⟨q, h1, dn h2 (fun _ z => by cases z)⟩
      generalize upd Hx d (.dK (putK kvs (.inr "zz") (.int 0))) = Hy at sx2 htl2 hfl2 hD2 ht2 hr2 htd2 hts2 hus2 ⊢
      refine ⟨_, rfl, _, rfl, fl, _, _, _, rfl, rfl, SqL.of hfl2, at', t, _, _, _, rfl, rfl, .inl (.inl ht2), a2, .inl ⟨rfl, _, SqL.of hr2⟩, r, _, _, rfl, rfl, hr2, szB (by omega), ?_⟩
      have ln : ∀ {b : Addr} {o : HO}, Hy b = some o → (∀ l, o ≠ .lst l) → (upd Hy r (.lst (xs ++ [.int 1]))) b = some o := fun {b o} h n => by
        rw [upd_ne (fun z => by rw [z, hr2] at h; exact n _ (Option.some.inj h).symm)]
        exact h
      refine ⟨_, rfl, same_mut sx2 (nr6 r m3), by rw [upd_ne (rtl r m3).symm]; exact htl2, fun s d' e => ?_, by rw [upd_ne (rfl' r m3).symm]; exact hfl2, fun s t' r' e e' => ?_, by rw [upd_ne (rD r m3).symm]; exact hD2, fun k u e => ?_⟩
      · obtain ⟨kv, h1, h2⟩ := htd2 s d' e
        exact ⟨kv, ln h1 (fun _ z => by cases z), h2⟩
      · obtain ⟨h1, xs', h2, h3⟩ := hts2 s t' r' e e'
        refine ⟨ln h1 (fun _ z => by cases z), ?_⟩
        by_cases z : r' = r
        · exact ⟨_, by rw [z]; exact upd_same, by rw [List.length_append]; show _ + 1 ≤ _; omega⟩
        · exact ⟨xs', by rw [upd_ne z]; exact h2, by omega⟩
      · obtain ⟨q, h1, h2⟩ := hus2 k u e
        exact ⟨q, h1, ln h2 (fun _ z => by cases z)⟩
    · obtain ⟨y9, rfl, sx, htl, htd, hfl, hts, hDx, hus⟩ := hW
      refine ⟨_, rfl, hp, L, rfl, hA6.same sx, ok, fun z => absurd z hl0, fun _ HA l2 g3 rep3 d3 e3 MA' => ?_⟩
      have MA := MA'.to F
      have M6A := (M6.keep sx).keep MA.sm
      refine ⟨_, rfl, 2, by decide, .inl ⟨l2, ul, _, _, rfl, rfl, SqL.of MA.at_, SqL.of M6A.at_, MA.eqs M6A⟩, ?_⟩
      refine ⟨_, rfl, ?_⟩
      have sxA := sx.trans MA.sm
      refine ⟨_, rfl, hp, L, rfl, hA6.same sxA, ok, fun z => absurd z hl0, fun _ HB l4 g4 rep4 ts4 rs4 SB' => ?_⟩
      have SB := SB'.to F
      have sxB := sxA.trans SB.sm
      have mv := MA.sm.trans SB.sm
      refine ⟨_, rfl, _, _, dp_states SB, dp_rest RO (rR6.same sxB) (mv _ _ hDx) us1 (fun k u e => by
        obtain ⟨q, h1, h2⟩ := hus k u e
        exact ⟨q, h1, mv _ _ h2⟩), shS, shS, ?_⟩
      rw [evS]
      refine ⟨_, rfl, ?_⟩
      refine ⟨_, rfl, _, rfl, _, _, dp_house (hA6.same sxB), dp_house (hK6.same sxB), dH_shaped lets, dH_shaped lets, ?_⟩
      rw [dH_refl lets]
      exact q _
end

end SH
set_option Elab.async false
set_option linter.all false
set_option maxRecDepth 100000
set_option maxHeartbeats 4000000
namespace SH
open PySem PySem.Spec PyProof.Rows L2
theorem law_all {P : Program} {w : World} {K : PySem.W.Frag} {mg : Str → Option Value} {base : Heap} {ea : Ea} {f : Addr} {fd : FuncData} (T : Txt K mg ea) (F : Fun K "law" "law" s_law f fd) : FnOk P w K mg base CX0 8 f fd ["script"] (spLaw K) :=
  have mix := ok__law_mix (P := P) (w := w) (base := base) T
  have at_ := ok__law_at (P := P) (w := w) (base := base) T
  have text := ok__law_text T mix (ok__law_letter T)
  have add := ok_Growth__add (P := P) (w := w) (base := base) T
  have lnk := ok_Growth_linked (P := P) (w := w) (base := base) T
  have led := ok_Growth__led_to T add
  have way := ok_Growth__way_of T (ok_Growth__after T add led)
  have put := ok_Growth__put_in_order T (ok_Growth__in_breadth T) (ok__renamed T)
  have gr := ok_Growth___init__ T way put
  have ends := ok__law_ends T (ok__law_stands (P := P) (w := w) (base := base) T)
  ok_law T F (ok__law_draws T) at_ (ok__law_house T mix text) (ok__law_long T mix) (ok__law_classes T (ok__law_words T) ends) (ok_machine T gr (ok_Growth_marked_edges T lnk)) (ok_states T gr (ok_Growth_pairs T) (ok_Growth_least_size T)) (ok_edge_count T) (ok__law_edges T ends) (ok__law_link T)
theorem all_mk {P : Program} {w : World} {K : PySem.W.Frag} {h : Heap} {mg : Str → Option Value} {fa : Addr} (X : K.In h) (G : h.Ns mainGlobals mg) (hfa : mg "law" = some (.ref fa))
    {f_machine f_states f_edge_count f__renamed f__law_draws f__law_at f__law_mix f__law_letter f__law_text f__law_house f__law_stands f__law_words f__law_ends f__law_classes f__law_edges f__law_link f__law_long f_law f_Growth___init__ f_Growth_linked f_Growth_pairs f_Growth_marked_edges f_Growth_least_size f_Growth__way_of f_Growth__after f_Growth__led_to f_Growth__add f_Growth__put_in_order f_Growth__in_breadth : Addr}
    {od_machine an_machine od_states an_states od_edge_count an_edge_count od__renamed an__renamed od__law_draws an__law_draws od__law_at an__law_at od__law_mix an__law_mix od__law_letter an__law_letter od__law_text an__law_text od__law_house an__law_house od__law_stands an__law_stands od__law_words an__law_words od__law_ends an__law_ends od__law_classes an__law_classes od__law_edges an__law_edges od__law_link an__law_link od__law_long an__law_long od_law an_law od_Growth___init__ an_Growth___init__ od_Growth_linked an_Growth_linked od_Growth_pairs an_Growth_pairs od_Growth_marked_edges an_Growth_marked_edges od_Growth_least_size an_Growth_least_size od_Growth__way_of an_Growth__way_of od_Growth__after an_Growth__after od_Growth__led_to an_Growth__led_to od_Growth__add an_Growth__add od_Growth__put_in_order an_Growth__put_in_order od_Growth__in_breadth an_Growth__in_breadth : Option Addr}
    {sl_machine sl_states sl_edge_count sl__renamed sl__law_draws sl__law_at sl__law_mix sl__law_letter sl__law_text sl__law_house sl__law_stands sl__law_words sl__law_ends sl__law_classes sl__law_edges sl__law_link sl__law_long sl_law sl_Growth___init__ sl_Growth_linked sl_Growth_pairs sl_Growth_marked_edges sl_Growth_least_size sl_Growth__way_of sl_Growth__after sl_Growth__led_to sl_Growth__add sl_Growth__put_in_order sl_Growth__in_breadth : Array (Option Value)}
    {oc_machine kV_machine dc_machine pm_machine cd_machine ct_machine oc_states kV_states dc_states pm_states cd_states ct_states oc_edge_count kV_edge_count dc_edge_count pm_edge_count cd_edge_count ct_edge_count oc__renamed kV__renamed dc__renamed pm__renamed cd__renamed ct__renamed oc__law_draws kV__law_draws dc__law_draws pm__law_draws cd__law_draws ct__law_draws oc__law_at kV__law_at dc__law_at pm__law_at cd__law_at ct__law_at oc__law_mix kV__law_mix dc__law_mix pm__law_mix cd__law_mix ct__law_mix oc__law_letter kV__law_letter dc__law_letter pm__law_letter cd__law_letter ct__law_letter oc__law_text kV__law_text dc__law_text pm__law_text cd__law_text ct__law_text oc__law_house kV__law_house dc__law_house pm__law_house cd__law_house ct__law_house oc__law_stands kV__law_stands dc__law_stands pm__law_stands cd__law_stands ct__law_stands oc__law_words kV__law_words dc__law_words pm__law_words cd__law_words ct__law_words oc__law_ends kV__law_ends dc__law_ends pm__law_ends cd__law_ends ct__law_ends oc__law_classes kV__law_classes dc__law_classes pm__law_classes cd__law_classes ct__law_classes oc__law_edges kV__law_edges dc__law_edges pm__law_edges cd__law_edges ct__law_edges oc__law_link kV__law_link dc__law_link pm__law_link cd__law_link ct__law_link oc__law_long kV__law_long dc__law_long pm__law_long cd__law_long ct__law_long oc_law kV_law dc_law pm_law cd_law ct_law oc_Growth___init__ kV_Growth___init__ dc_Growth___init__ pm_Growth___init__ cd_Growth___init__ ct_Growth___init__ oc_Growth_linked kV_Growth_linked dc_Growth_linked pm_Growth_linked cd_Growth_linked ct_Growth_linked oc_Growth_pairs kV_Growth_pairs dc_Growth_pairs pm_Growth_pairs cd_Growth_pairs ct_Growth_pairs oc_Growth_marked_edges kV_Growth_marked_edges dc_Growth_marked_edges pm_Growth_marked_edges cd_Growth_marked_edges ct_Growth_marked_edges oc_Growth_least_size kV_Growth_least_size dc_Growth_least_size pm_Growth_least_size cd_Growth_least_size ct_Growth_least_size oc_Growth__way_of kV_Growth__way_of dc_Growth__way_of pm_Growth__way_of cd_Growth__way_of ct_Growth__way_of oc_Growth__after kV_Growth__after dc_Growth__after pm_Growth__after cd_Growth__after ct_Growth__after oc_Growth__led_to kV_Growth__led_to dc_Growth__led_to pm_Growth__led_to cd_Growth__led_to ct_Growth__led_to oc_Growth__add kV_Growth__add dc_Growth__add pm_Growth__add cd_Growth__add ct_Growth__add oc_Growth__put_in_order kV_Growth__put_in_order dc_Growth__put_in_order pm_Growth__put_in_order cd_Growth__put_in_order ct_Growth__put_in_order oc_Growth__in_breadth kV_Growth__in_breadth dc_Growth__in_breadth pm_Growth__in_breadth cd_Growth__in_breadth ct_Growth__in_breadth : Value}
    {C_Growth : Addr}
    (z_abs : PySem.W.nsIn K mainGlobals "abs" = some none)
    (z_bool : PySem.W.nsIn K mainGlobals "bool" = some none)
    (z_dict : PySem.W.nsIn K mainGlobals "dict" = some none)
    (z_enumerate : PySem.W.nsIn K mainGlobals "enumerate" = some none)
    (z_int : PySem.W.nsIn K mainGlobals "int" = some none)
    (z_isinstance : PySem.W.nsIn K mainGlobals "isinstance" = some none)
    (z_len : PySem.W.nsIn K mainGlobals "len" = some none)
    (z_list : PySem.W.nsIn K mainGlobals "list" = some none)
    (z_min : PySem.W.nsIn K mainGlobals "min" = some none)
    (z_range : PySem.W.nsIn K mainGlobals "range" = some none)
    (z_sorted : PySem.W.nsIn K mainGlobals "sorted" = some none)
    (z_sum : PySem.W.nsIn K mainGlobals "sum" = some none)
    (z_tuple : PySem.W.nsIn K mainGlobals "tuple" = some none)
    (a_machine : PySem.W.nsIn K mainGlobals "machine" = some (some (.ref f_machine)))
    (l_machine : K.lookup f_machine = some ⟨oc_machine, od_machine, .func (PySem.W.fnOf "machine" "machine" (defArgs s_machine) (defBody s_machine) (defScope s_machine) .none kV_machine dc_machine pm_machine an_machine cd_machine ct_machine), sl_machine⟩)
    (c_machine : PySem.W.codeIn K cd_machine "machine" = true)
    (k_machine : PySem.W.keepIn K (.ref f_machine) = true)
    (a_states : PySem.W.nsIn K mainGlobals "states" = some (some (.ref f_states)))
    (l_states : K.lookup f_states = some ⟨oc_states, od_states, .func (PySem.W.fnOf "states" "states" (defArgs s_states) (defBody s_states) (defScope s_states) .none kV_states dc_states pm_states an_states cd_states ct_states), sl_states⟩)
    (c_states : PySem.W.codeIn K cd_states "states" = true)
    (k_states : PySem.W.keepIn K (.ref f_states) = true)
    (a_edge_count : PySem.W.nsIn K mainGlobals "edge_count" = some (some (.ref f_edge_count)))
    (l_edge_count : K.lookup f_edge_count = some ⟨oc_edge_count, od_edge_count, .func (PySem.W.fnOf "edge_count" "edge_count" (defArgs s_edge_count) (defBody s_edge_count) (defScope s_edge_count) .none kV_edge_count dc_edge_count pm_edge_count an_edge_count cd_edge_count ct_edge_count), sl_edge_count⟩)
    (c_edge_count : PySem.W.codeIn K cd_edge_count "edge_count" = true)
    (k_edge_count : PySem.W.keepIn K (.ref f_edge_count) = true)
    (a__renamed : PySem.W.nsIn K mainGlobals "_renamed" = some (some (.ref f__renamed)))
    (l__renamed : K.lookup f__renamed = some ⟨oc__renamed, od__renamed, .func (PySem.W.fnOf "_renamed" "_renamed" (defArgs s__renamed) (defBody s__renamed) (defScope s__renamed) .none kV__renamed dc__renamed pm__renamed an__renamed cd__renamed ct__renamed), sl__renamed⟩)
    (c__renamed : PySem.W.codeIn K cd__renamed "_renamed" = true)
    (k__renamed : PySem.W.keepIn K (.ref f__renamed) = true)
    (a__law_draws : PySem.W.nsIn K mainGlobals "_law_draws" = some (some (.ref f__law_draws)))
    (l__law_draws : K.lookup f__law_draws = some ⟨oc__law_draws, od__law_draws, .func (PySem.W.fnOf "_law_draws" "_law_draws" (defArgs s__law_draws) (defBody s__law_draws) (defScope s__law_draws) .none kV__law_draws dc__law_draws pm__law_draws an__law_draws cd__law_draws ct__law_draws), sl__law_draws⟩)
    (c__law_draws : PySem.W.codeIn K cd__law_draws "_law_draws" = true)
    (k__law_draws : PySem.W.keepIn K (.ref f__law_draws) = true)
    (a__law_at : PySem.W.nsIn K mainGlobals "_law_at" = some (some (.ref f__law_at)))
    (l__law_at : K.lookup f__law_at = some ⟨oc__law_at, od__law_at, .func (PySem.W.fnOf "_law_at" "_law_at" (defArgs s__law_at) (defBody s__law_at) (defScope s__law_at) .none kV__law_at dc__law_at pm__law_at an__law_at cd__law_at ct__law_at), sl__law_at⟩)
    (c__law_at : PySem.W.codeIn K cd__law_at "_law_at" = true)
    (k__law_at : PySem.W.keepIn K (.ref f__law_at) = true)
    (a__law_mix : PySem.W.nsIn K mainGlobals "_law_mix" = some (some (.ref f__law_mix)))
    (l__law_mix : K.lookup f__law_mix = some ⟨oc__law_mix, od__law_mix, .func (PySem.W.fnOf "_law_mix" "_law_mix" (defArgs s__law_mix) (defBody s__law_mix) (defScope s__law_mix) .none kV__law_mix dc__law_mix pm__law_mix an__law_mix cd__law_mix ct__law_mix), sl__law_mix⟩)
    (c__law_mix : PySem.W.codeIn K cd__law_mix "_law_mix" = true)
    (k__law_mix : PySem.W.keepIn K (.ref f__law_mix) = true)
    (a__law_letter : PySem.W.nsIn K mainGlobals "_law_letter" = some (some (.ref f__law_letter)))
    (l__law_letter : K.lookup f__law_letter = some ⟨oc__law_letter, od__law_letter, .func (PySem.W.fnOf "_law_letter" "_law_letter" (defArgs s__law_letter) (defBody s__law_letter) (defScope s__law_letter) .none kV__law_letter dc__law_letter pm__law_letter an__law_letter cd__law_letter ct__law_letter), sl__law_letter⟩)
    (c__law_letter : PySem.W.codeIn K cd__law_letter "_law_letter" = true)
    (k__law_letter : PySem.W.keepIn K (.ref f__law_letter) = true)
    (a__law_text : PySem.W.nsIn K mainGlobals "_law_text" = some (some (.ref f__law_text)))
    (l__law_text : K.lookup f__law_text = some ⟨oc__law_text, od__law_text, .func (PySem.W.fnOf "_law_text" "_law_text" (defArgs s__law_text) (defBody s__law_text) (defScope s__law_text) .none kV__law_text dc__law_text pm__law_text an__law_text cd__law_text ct__law_text), sl__law_text⟩)
    (c__law_text : PySem.W.codeIn K cd__law_text "_law_text" = true)
    (k__law_text : PySem.W.keepIn K (.ref f__law_text) = true)
    (a__law_house : PySem.W.nsIn K mainGlobals "_law_house" = some (some (.ref f__law_house)))
    (l__law_house : K.lookup f__law_house = some ⟨oc__law_house, od__law_house, .func (PySem.W.fnOf "_law_house" "_law_house" (defArgs s__law_house) (defBody s__law_house) (defScope s__law_house) .none kV__law_house dc__law_house pm__law_house an__law_house cd__law_house ct__law_house), sl__law_house⟩)
    (c__law_house : PySem.W.codeIn K cd__law_house "_law_house" = true)
    (k__law_house : PySem.W.keepIn K (.ref f__law_house) = true)
    (a__law_stands : PySem.W.nsIn K mainGlobals "_law_stands" = some (some (.ref f__law_stands)))
    (l__law_stands : K.lookup f__law_stands = some ⟨oc__law_stands, od__law_stands, .func (PySem.W.fnOf "_law_stands" "_law_stands" (defArgs s__law_stands) (defBody s__law_stands) (defScope s__law_stands) .none kV__law_stands dc__law_stands pm__law_stands an__law_stands cd__law_stands ct__law_stands), sl__law_stands⟩)
    (c__law_stands : PySem.W.codeIn K cd__law_stands "_law_stands" = true)
    (k__law_stands : PySem.W.keepIn K (.ref f__law_stands) = true)
    (a__law_words : PySem.W.nsIn K mainGlobals "_law_words" = some (some (.ref f__law_words)))
    (l__law_words : K.lookup f__law_words = some ⟨oc__law_words, od__law_words, .func (PySem.W.fnOf "_law_words" "_law_words" (defArgs s__law_words) (defBody s__law_words) (defScope s__law_words) .none kV__law_words dc__law_words pm__law_words an__law_words cd__law_words ct__law_words), sl__law_words⟩)
    (c__law_words : PySem.W.codeIn K cd__law_words "_law_words" = true)
    (k__law_words : PySem.W.keepIn K (.ref f__law_words) = true)
    (a__law_ends : PySem.W.nsIn K mainGlobals "_law_ends" = some (some (.ref f__law_ends)))
    (l__law_ends : K.lookup f__law_ends = some ⟨oc__law_ends, od__law_ends, .func (PySem.W.fnOf "_law_ends" "_law_ends" (defArgs s__law_ends) (defBody s__law_ends) (defScope s__law_ends) .none kV__law_ends dc__law_ends pm__law_ends an__law_ends cd__law_ends ct__law_ends), sl__law_ends⟩)
    (c__law_ends : PySem.W.codeIn K cd__law_ends "_law_ends" = true)
    (k__law_ends : PySem.W.keepIn K (.ref f__law_ends) = true)
    (a__law_classes : PySem.W.nsIn K mainGlobals "_law_classes" = some (some (.ref f__law_classes)))
    (l__law_classes : K.lookup f__law_classes = some ⟨oc__law_classes, od__law_classes, .func (PySem.W.fnOf "_law_classes" "_law_classes" (defArgs s__law_classes) (defBody s__law_classes) (defScope s__law_classes) .none kV__law_classes dc__law_classes pm__law_classes an__law_classes cd__law_classes ct__law_classes), sl__law_classes⟩)
    (c__law_classes : PySem.W.codeIn K cd__law_classes "_law_classes" = true)
    (k__law_classes : PySem.W.keepIn K (.ref f__law_classes) = true)
    (a__law_edges : PySem.W.nsIn K mainGlobals "_law_edges" = some (some (.ref f__law_edges)))
    (l__law_edges : K.lookup f__law_edges = some ⟨oc__law_edges, od__law_edges, .func (PySem.W.fnOf "_law_edges" "_law_edges" (defArgs s__law_edges) (defBody s__law_edges) (defScope s__law_edges) .none kV__law_edges dc__law_edges pm__law_edges an__law_edges cd__law_edges ct__law_edges), sl__law_edges⟩)
    (c__law_edges : PySem.W.codeIn K cd__law_edges "_law_edges" = true)
    (k__law_edges : PySem.W.keepIn K (.ref f__law_edges) = true)
    (a__law_link : PySem.W.nsIn K mainGlobals "_law_link" = some (some (.ref f__law_link)))
    (l__law_link : K.lookup f__law_link = some ⟨oc__law_link, od__law_link, .func (PySem.W.fnOf "_law_link" "_law_link" (defArgs s__law_link) (defBody s__law_link) (defScope s__law_link) .none kV__law_link dc__law_link pm__law_link an__law_link cd__law_link ct__law_link), sl__law_link⟩)
    (c__law_link : PySem.W.codeIn K cd__law_link "_law_link" = true)
    (k__law_link : PySem.W.keepIn K (.ref f__law_link) = true)
    (a__law_long : PySem.W.nsIn K mainGlobals "_law_long" = some (some (.ref f__law_long)))
    (l__law_long : K.lookup f__law_long = some ⟨oc__law_long, od__law_long, .func (PySem.W.fnOf "_law_long" "_law_long" (defArgs s__law_long) (defBody s__law_long) (defScope s__law_long) .none kV__law_long dc__law_long pm__law_long an__law_long cd__law_long ct__law_long), sl__law_long⟩)
    (c__law_long : PySem.W.codeIn K cd__law_long "_law_long" = true)
    (k__law_long : PySem.W.keepIn K (.ref f__law_long) = true)
    (a_law : PySem.W.nsIn K mainGlobals "law" = some (some (.ref f_law)))
    (l_law : K.lookup f_law = some ⟨oc_law, od_law, .func (PySem.W.fnOf "law" "law" (defArgs s_law) (defBody s_law) (defScope s_law) .none kV_law dc_law pm_law an_law cd_law ct_law), sl_law⟩)
    (c_law : PySem.W.codeIn K cd_law "law" = true)
    (k_law : PySem.W.keepIn K (.ref f_law) = true)
    (a_Growth___init__ : PySem.W.findIn K (.ref C_Growth) "__init__" = some (some (.ref f_Growth___init__)))
    (i_Growth___init__ : PySem.W.isFn K (.ref f_Growth___init__) = true)
    (l_Growth___init__ : K.lookup f_Growth___init__ = some ⟨oc_Growth___init__, od_Growth___init__, .func (PySem.W.fnOf "__init__" "Growth.__init__" (defArgs s_Growth___init__) (defBody s_Growth___init__) (defScope s_Growth___init__) .none kV_Growth___init__ dc_Growth___init__ pm_Growth___init__ an_Growth___init__ cd_Growth___init__ ct_Growth___init__), sl_Growth___init__⟩)
    (c_Growth___init__ : PySem.W.codeIn K cd_Growth___init__ "Growth.__init__" = true)
    (k_Growth___init__ : PySem.W.keepIn K (.ref f_Growth___init__) = true)
    (a_Growth_linked : PySem.W.findIn K (.ref C_Growth) "linked" = some (some (.ref f_Growth_linked)))
    (i_Growth_linked : PySem.W.isFn K (.ref f_Growth_linked) = true)
    (l_Growth_linked : K.lookup f_Growth_linked = some ⟨oc_Growth_linked, od_Growth_linked, .func (PySem.W.fnOf "linked" "Growth.linked" (defArgs s_Growth_linked) (defBody s_Growth_linked) (defScope s_Growth_linked) .none kV_Growth_linked dc_Growth_linked pm_Growth_linked an_Growth_linked cd_Growth_linked ct_Growth_linked), sl_Growth_linked⟩)
    (c_Growth_linked : PySem.W.codeIn K cd_Growth_linked "Growth.linked" = true)
    (k_Growth_linked : PySem.W.keepIn K (.ref f_Growth_linked) = true)
    (a_Growth_pairs : PySem.W.findIn K (.ref C_Growth) "pairs" = some (some (.ref f_Growth_pairs)))
    (i_Growth_pairs : PySem.W.isFn K (.ref f_Growth_pairs) = true)
    (l_Growth_pairs : K.lookup f_Growth_pairs = some ⟨oc_Growth_pairs, od_Growth_pairs, .func (PySem.W.fnOf "pairs" "Growth.pairs" (defArgs s_Growth_pairs) (defBody s_Growth_pairs) (defScope s_Growth_pairs) .none kV_Growth_pairs dc_Growth_pairs pm_Growth_pairs an_Growth_pairs cd_Growth_pairs ct_Growth_pairs), sl_Growth_pairs⟩)
    (c_Growth_pairs : PySem.W.codeIn K cd_Growth_pairs "Growth.pairs" = true)
    (k_Growth_pairs : PySem.W.keepIn K (.ref f_Growth_pairs) = true)
    (a_Growth_marked_edges : PySem.W.findIn K (.ref C_Growth) "marked_edges" = some (some (.ref f_Growth_marked_edges)))
    (i_Growth_marked_edges : PySem.W.isFn K (.ref f_Growth_marked_edges) = true)
    (l_Growth_marked_edges : K.lookup f_Growth_marked_edges = some ⟨oc_Growth_marked_edges, od_Growth_marked_edges, .func (PySem.W.fnOf "marked_edges" "Growth.marked_edges" (defArgs s_Growth_marked_edges) (defBody s_Growth_marked_edges) (defScope s_Growth_marked_edges) .none kV_Growth_marked_edges dc_Growth_marked_edges pm_Growth_marked_edges an_Growth_marked_edges cd_Growth_marked_edges ct_Growth_marked_edges), sl_Growth_marked_edges⟩)
    (c_Growth_marked_edges : PySem.W.codeIn K cd_Growth_marked_edges "Growth.marked_edges" = true)
    (k_Growth_marked_edges : PySem.W.keepIn K (.ref f_Growth_marked_edges) = true)
    (a_Growth_least_size : PySem.W.findIn K (.ref C_Growth) "least_size" = some (some (.ref f_Growth_least_size)))
    (i_Growth_least_size : PySem.W.isFn K (.ref f_Growth_least_size) = true)
    (l_Growth_least_size : K.lookup f_Growth_least_size = some ⟨oc_Growth_least_size, od_Growth_least_size, .func (PySem.W.fnOf "least_size" "Growth.least_size" (defArgs s_Growth_least_size) (defBody s_Growth_least_size) (defScope s_Growth_least_size) .none kV_Growth_least_size dc_Growth_least_size pm_Growth_least_size an_Growth_least_size cd_Growth_least_size ct_Growth_least_size), sl_Growth_least_size⟩)
    (c_Growth_least_size : PySem.W.codeIn K cd_Growth_least_size "Growth.least_size" = true)
    (k_Growth_least_size : PySem.W.keepIn K (.ref f_Growth_least_size) = true)
    (a_Growth__way_of : PySem.W.findIn K (.ref C_Growth) "_way_of" = some (some (.ref f_Growth__way_of)))
    (i_Growth__way_of : PySem.W.isFn K (.ref f_Growth__way_of) = true)
    (l_Growth__way_of : K.lookup f_Growth__way_of = some ⟨oc_Growth__way_of, od_Growth__way_of, .func (PySem.W.fnOf "_way_of" "Growth._way_of" (defArgs s_Growth__way_of) (defBody s_Growth__way_of) (defScope s_Growth__way_of) .none kV_Growth__way_of dc_Growth__way_of pm_Growth__way_of an_Growth__way_of cd_Growth__way_of ct_Growth__way_of), sl_Growth__way_of⟩)
    (c_Growth__way_of : PySem.W.codeIn K cd_Growth__way_of "Growth._way_of" = true)
    (k_Growth__way_of : PySem.W.keepIn K (.ref f_Growth__way_of) = true)
    (a_Growth__after : PySem.W.findIn K (.ref C_Growth) "_after" = some (some (.ref f_Growth__after)))
    (i_Growth__after : PySem.W.isFn K (.ref f_Growth__after) = true)
    (l_Growth__after : K.lookup f_Growth__after = some ⟨oc_Growth__after, od_Growth__after, .func (PySem.W.fnOf "_after" "Growth._after" (defArgs s_Growth__after) (defBody s_Growth__after) (defScope s_Growth__after) .none kV_Growth__after dc_Growth__after pm_Growth__after an_Growth__after cd_Growth__after ct_Growth__after), sl_Growth__after⟩)
    (c_Growth__after : PySem.W.codeIn K cd_Growth__after "Growth._after" = true)
    (k_Growth__after : PySem.W.keepIn K (.ref f_Growth__after) = true)
    (a_Growth__led_to : PySem.W.findIn K (.ref C_Growth) "_led_to" = some (some (.ref f_Growth__led_to)))
    (i_Growth__led_to : PySem.W.isFn K (.ref f_Growth__led_to) = true)
    (l_Growth__led_to : K.lookup f_Growth__led_to = some ⟨oc_Growth__led_to, od_Growth__led_to, .func (PySem.W.fnOf "_led_to" "Growth._led_to" (defArgs s_Growth__led_to) (defBody s_Growth__led_to) (defScope s_Growth__led_to) .none kV_Growth__led_to dc_Growth__led_to pm_Growth__led_to an_Growth__led_to cd_Growth__led_to ct_Growth__led_to), sl_Growth__led_to⟩)
    (c_Growth__led_to : PySem.W.codeIn K cd_Growth__led_to "Growth._led_to" = true)
    (k_Growth__led_to : PySem.W.keepIn K (.ref f_Growth__led_to) = true)
    (a_Growth__add : PySem.W.findIn K (.ref C_Growth) "_add" = some (some (.ref f_Growth__add)))
    (i_Growth__add : PySem.W.isFn K (.ref f_Growth__add) = true)
    (l_Growth__add : K.lookup f_Growth__add = some ⟨oc_Growth__add, od_Growth__add, .func (PySem.W.fnOf "_add" "Growth._add" (defArgs s_Growth__add) (defBody s_Growth__add) (defScope s_Growth__add) .none kV_Growth__add dc_Growth__add pm_Growth__add an_Growth__add cd_Growth__add ct_Growth__add), sl_Growth__add⟩)
    (c_Growth__add : PySem.W.codeIn K cd_Growth__add "Growth._add" = true)
    (k_Growth__add : PySem.W.keepIn K (.ref f_Growth__add) = true)
    (a_Growth__put_in_order : PySem.W.findIn K (.ref C_Growth) "_put_in_order" = some (some (.ref f_Growth__put_in_order)))
    (i_Growth__put_in_order : PySem.W.isFn K (.ref f_Growth__put_in_order) = true)
    (l_Growth__put_in_order : K.lookup f_Growth__put_in_order = some ⟨oc_Growth__put_in_order, od_Growth__put_in_order, .func (PySem.W.fnOf "_put_in_order" "Growth._put_in_order" (defArgs s_Growth__put_in_order) (defBody s_Growth__put_in_order) (defScope s_Growth__put_in_order) .none kV_Growth__put_in_order dc_Growth__put_in_order pm_Growth__put_in_order an_Growth__put_in_order cd_Growth__put_in_order ct_Growth__put_in_order), sl_Growth__put_in_order⟩)
    (c_Growth__put_in_order : PySem.W.codeIn K cd_Growth__put_in_order "Growth._put_in_order" = true)
    (k_Growth__put_in_order : PySem.W.keepIn K (.ref f_Growth__put_in_order) = true)
    (a_Growth__in_breadth : PySem.W.findIn K (.ref C_Growth) "_in_breadth" = some (some (.ref f_Growth__in_breadth)))
    (i_Growth__in_breadth : PySem.W.isFn K (.ref f_Growth__in_breadth) = true)
    (l_Growth__in_breadth : K.lookup f_Growth__in_breadth = some ⟨oc_Growth__in_breadth, od_Growth__in_breadth, .func (PySem.W.fnOf "_in_breadth" "Growth._in_breadth" (defArgs s_Growth__in_breadth) (defBody s_Growth__in_breadth) (defScope s_Growth__in_breadth) .none kV_Growth__in_breadth dc_Growth__in_breadth pm_Growth__in_breadth an_Growth__in_breadth cd_Growth__in_breadth ct_Growth__in_breadth), sl_Growth__in_breadth⟩)
    (c_Growth__in_breadth : PySem.W.codeIn K cd_Growth__in_breadth "Growth._in_breadth" = true)
    (k_Growth__in_breadth : PySem.W.keepIn K (.ref f_Growth__in_breadth) = true)
    (g_Growth : PySem.W.nsIn K mainGlobals "Growth" = some (some (.ref C_Growth)))
    (pg_Growth : PySem.W.plainGet K C_Growth Str.empty = true)
    (hd_Growth : PySem.W.hasDictIn K C_Growth = true)
    (po_Growth : PySem.W.plainOver K C_Growth = true)
    (sa_Growth : PySem.W.findIn K (.ref C_Growth) "__setattr__" = some (some (.builtin "object.__setattr__")))
    (mk_Growth : PySem.W.makesIn K C_Growth = true)
    (kc_Growth : PySem.W.keepIn K (.ref C_Growth) = true)
    (nf_Growth_edges : PySem.W.findIn K (.ref C_Growth) "edges" = some none)
    (nf_Growth_sizes : PySem.W.findIn K (.ref C_Growth) "sizes" = some none)
    (nf_Growth_links : PySem.W.findIn K (.ref C_Growth) "links" = some none)
    (nf_Growth_ways : PySem.W.findIn K (.ref C_Growth) "ways" = some none)
    : ∃ fd : FuncData, (∀ (s : Shared) (v : Value), BindsTo s fd ⟨[v], []⟩ [("script", v)]) ∧ ∀ base : Heap, K.In base → base.Ns mainGlobals mg → FnOk P w K mg base CX0 8 fa fd ["script"] (spLaw K) := by
  have e := hfa.symm.trans (PySem.W.mg_of X G a_law)
  cases e
  have T : Txt K mg ⟨fa, C_Growth⟩ := ⟨PySem.W.mg_none_of X G z_abs, PySem.W.mg_none_of X G z_bool, PySem.W.mg_none_of X G z_dict, PySem.W.mg_none_of X G z_enumerate, PySem.W.mg_none_of X G z_int, PySem.W.mg_none_of X G z_isinstance, PySem.W.mg_none_of X G z_len, PySem.W.mg_none_of X G z_list, PySem.W.mg_none_of X G z_min, PySem.W.mg_none_of X G z_range, PySem.W.mg_none_of X G z_sorted, PySem.W.mg_none_of X G z_sum, PySem.W.mg_none_of X G z_tuple, ⟨_, _, fun_mk (st := s_machine) l_machine c_machine k_machine, PySem.W.mg_of X G a_machine, (fun_mk (st := s_machine) l_machine c_machine k_machine).binds (ps := ["house"]) fun _ _ _ _ _ _ us hl => match us, hl with | [_], _ => rfl⟩, ⟨_, _, fun_mk (st := s_states) l_states c_states k_states, PySem.W.mg_of X G a_states, (fun_mk (st := s_states) l_states c_states k_states).binds (ps := ["house"]) fun _ _ _ _ _ _ us hl => match us, hl with | [_], _ => rfl⟩, ⟨_, _, fun_mk (st := s_edge_count) l_edge_count c_edge_count k_edge_count, PySem.W.mg_of X G a_edge_count, (fun_mk (st := s_edge_count) l_edge_count c_edge_count k_edge_count).binds (ps := ["edges"]) fun _ _ _ _ _ _ us hl => match us, hl with | [_], _ => rfl⟩, ⟨_, _, fun_mk (st := s__renamed) l__renamed c__renamed k__renamed, PySem.W.mg_of X G a__renamed, (fun_mk (st := s__renamed) l__renamed c__renamed k__renamed).binds (ps := ["edges", "numbers"]) fun _ _ _ _ _ _ us hl => match us, hl with | [_, _], _ => rfl⟩, ⟨_, _, fun_mk (st := s__law_draws) l__law_draws c__law_draws k__law_draws, PySem.W.mg_of X G a__law_draws, (fun_mk (st := s__law_draws) l__law_draws c__law_draws k__law_draws).binds (ps := ["script"]) fun _ _ _ _ _ _ us hl => match us, hl with | [_], _ => rfl⟩, ⟨_, _, fun_mk (st := s__law_at) l__law_at c__law_at k__law_at, PySem.W.mg_of X G a__law_at, (fun_mk (st := s__law_at) l__law_at c__law_at k__law_at).binds (ps := ["draws", "k", "many"]) fun _ _ _ _ _ _ us hl => match us, hl with | [_, _, _], _ => rfl⟩, ⟨_, _, fun_mk (st := s__law_mix) l__law_mix c__law_mix k__law_mix, PySem.W.mg_of X G a__law_mix, (fun_mk (st := s__law_mix) l__law_mix c__law_mix k__law_mix).binds (ps := ["draws", "k", "many"]) fun _ _ _ _ _ _ us hl => match us, hl with | [_, _, _], _ => rfl⟩, ⟨_, _, fun_mk (st := s__law_letter) l__law_letter c__law_letter k__law_letter, PySem.W.mg_of X G a__law_letter, (fun_mk (st := s__law_letter) l__law_letter c__law_letter k__law_letter).binds (ps := ["cell"]) fun _ _ _ _ _ _ us hl => match us, hl with | [_], _ => rfl⟩, ⟨_, _, fun_mk (st := s__law_text) l__law_text c__law_text k__law_text, PySem.W.mg_of X G a__law_text, (fun_mk (st := s__law_text) l__law_text c__law_text k__law_text).binds (ps := ["draws", "k", "most"]) fun _ _ _ _ _ _ us hl => match us, hl with | [_, _, _], _ => rfl⟩, ⟨_, _, fun_mk (st := s__law_house) l__law_house c__law_house k__law_house, PySem.W.mg_of X G a__law_house, (fun_mk (st := s__law_house) l__law_house c__law_house k__law_house).binds (ps := ["draws", "k", "many", "most"]) fun _ _ _ _ _ _ us hl => match us, hl with | [_, _, _, _], _ => rfl⟩, ⟨_, _, fun_mk (st := s__law_stands) l__law_stands c__law_stands k__law_stands, PySem.W.mg_of X G a__law_stands, (fun_mk (st := s__law_stands) l__law_stands c__law_stands k__law_stands).binds (ps := ["text", "word", "start"]) fun _ _ _ _ _ _ us hl => match us, hl with | [_, _, _], _ => rfl⟩, ⟨_, _, fun_mk (st := s__law_words) l__law_words c__law_words k__law_words, PySem.W.mg_of X G a__law_words, (fun_mk (st := s__law_words) l__law_words c__law_words k__law_words).binds (ps := ["house"]) fun _ _ _ _ _ _ us hl => match us, hl with | [_], _ => rfl⟩, ⟨_, _, fun_mk (st := s__law_ends) l__law_ends c__law_ends k__law_ends, PySem.W.mg_of X G a__law_ends, (fun_mk (st := s__law_ends) l__law_ends c__law_ends k__law_ends).binds (ps := ["house", "word"]) fun _ _ _ _ _ _ us hl => match us, hl with | [_, _], _ => rfl⟩, ⟨_, _, fun_mk (st := s__law_classes) l__law_classes c__law_classes k__law_classes, PySem.W.mg_of X G a__law_classes, (fun_mk (st := s__law_classes) l__law_classes c__law_classes k__law_classes).binds (ps := ["house"]) fun _ _ _ _ _ _ us hl => match us, hl with | [_], _ => rfl⟩, ⟨_, _, fun_mk (st := s__law_edges) l__law_edges c__law_edges k__law_edges, PySem.W.mg_of X G a__law_edges, (fun_mk (st := s__law_edges) l__law_edges c__law_edges k__law_edges).binds (ps := ["house", "rows"]) fun _ _ _ _ _ _ us hl => match us, hl with | [_, _], _ => rfl⟩, ⟨_, _, fun_mk (st := s__law_link) l__law_link c__law_link k__law_link, PySem.W.mg_of X G a__law_link, (fun_mk (st := s__law_link) l__law_link c__law_link k__law_link).binds (ps := ["rows", "k"]) fun _ _ _ _ _ _ us hl => match us, hl with | [_, _], _ => rfl⟩, ⟨_, _, fun_mk (st := s__law_long) l__law_long c__law_long k__law_long, PySem.W.mg_of X G a__law_long, (fun_mk (st := s__law_long) l__law_long c__law_long k__law_long).binds (ps := ["draws", "k"]) fun _ _ _ _ _ _ us hl => match us, hl with | [_, _], _ => rfl⟩, ⟨_, _, fun_mk (st := s_law) l_law c_law k_law, PySem.W.mg_of X G a_law, (fun_mk (st := s_law) l_law c_law k_law).binds (ps := ["script"]) fun _ _ _ _ _ _ us hl => match us, hl with | [_], _ => rfl⟩, ⟨_, _, fun_mk (st := s_Growth___init__) l_Growth___init__ c_Growth___init__ k_Growth___init__, ⟨mk_Growth, a_Growth___init__, i_Growth___init__, kc_Growth⟩, (fun_mk (st := s_Growth___init__) l_Growth___init__ c_Growth___init__ k_Growth___init__).binds (ps := ["self", "house"]) fun _ _ _ _ _ _ us hl => match us, hl with | [_, _], _ => rfl⟩, ⟨_, _, fun_mk (st := s_Growth_linked) l_Growth_linked c_Growth_linked k_Growth_linked, ⟨a_Growth_linked, i_Growth_linked, k_Growth_linked⟩, (fun_mk (st := s_Growth_linked) l_Growth_linked c_Growth_linked k_Growth_linked).binds (ps := ["self", "state"]) fun _ _ _ _ _ _ us hl => match us, hl with | [_, _], _ => rfl⟩, ⟨_, _, fun_mk (st := s_Growth_pairs) l_Growth_pairs c_Growth_pairs k_Growth_pairs, ⟨a_Growth_pairs, i_Growth_pairs, k_Growth_pairs⟩, (fun_mk (st := s_Growth_pairs) l_Growth_pairs c_Growth_pairs k_Growth_pairs).binds (ps := ["self"]) fun _ _ _ _ _ _ us hl => match us, hl with | [_], _ => rfl⟩, ⟨_, _, fun_mk (st := s_Growth_marked_edges) l_Growth_marked_edges c_Growth_marked_edges k_Growth_marked_edges, ⟨a_Growth_marked_edges, i_Growth_marked_edges, k_Growth_marked_edges⟩, (fun_mk (st := s_Growth_marked_edges) l_Growth_marked_edges c_Growth_marked_edges k_Growth_marked_edges).binds (ps := ["self"]) fun _ _ _ _ _ _ us hl => match us, hl with | [_], _ => rfl⟩, ⟨_, _, fun_mk (st := s_Growth_least_size) l_Growth_least_size c_Growth_least_size k_Growth_least_size, ⟨a_Growth_least_size, i_Growth_least_size, k_Growth_least_size⟩, (fun_mk (st := s_Growth_least_size) l_Growth_least_size c_Growth_least_size k_Growth_least_size).binds (ps := ["self", "state"]) fun _ _ _ _ _ _ us hl => match us, hl with | [_, _], _ => rfl⟩, ⟨_, _, fun_mk (st := s_Growth__way_of) l_Growth__way_of c_Growth__way_of k_Growth__way_of, ⟨a_Growth__way_of, i_Growth__way_of, k_Growth__way_of⟩, (fun_mk (st := s_Growth__way_of) l_Growth__way_of c_Growth__way_of k_Growth__way_of).binds (ps := ["self", "text"]) fun _ _ _ _ _ _ us hl => match us, hl with | [_, _], _ => rfl⟩, ⟨_, _, fun_mk (st := s_Growth__after) l_Growth__after c_Growth__after k_Growth__after, ⟨a_Growth__after, i_Growth__after, k_Growth__after⟩, (fun_mk (st := s_Growth__after) l_Growth__after c_Growth__after k_Growth__after).binds (ps := ["self", "state", "letter"]) fun _ _ _ _ _ _ us hl => match us, hl with | [_, _, _], _ => rfl⟩, ⟨_, _, fun_mk (st := s_Growth__led_to) l_Growth__led_to c_Growth__led_to k_Growth__led_to, ⟨a_Growth__led_to, i_Growth__led_to, k_Growth__led_to⟩, (fun_mk (st := s_Growth__led_to) l_Growth__led_to c_Growth__led_to k_Growth__led_to).binds (ps := ["self", "state", "letter"]) fun _ _ _ _ _ _ us hl => match us, hl with | [_, _, _], _ => rfl⟩, ⟨_, _, fun_mk (st := s_Growth__add) l_Growth__add c_Growth__add k_Growth__add, ⟨a_Growth__add, i_Growth__add, k_Growth__add⟩, (fun_mk (st := s_Growth__add) l_Growth__add c_Growth__add k_Growth__add).binds (ps := ["self", "size", "edges", "link"]) fun _ _ _ _ _ _ us hl => match us, hl with | [_, _, _, _], _ => rfl⟩, ⟨_, _, fun_mk (st := s_Growth__put_in_order) l_Growth__put_in_order c_Growth__put_in_order k_Growth__put_in_order, ⟨a_Growth__put_in_order, i_Growth__put_in_order, k_Growth__put_in_order⟩, (fun_mk (st := s_Growth__put_in_order) l_Growth__put_in_order c_Growth__put_in_order k_Growth__put_in_order).binds (ps := ["self"]) fun _ _ _ _ _ _ us hl => match us, hl with | [_], _ => rfl⟩, ⟨_, _, fun_mk (st := s_Growth__in_breadth) l_Growth__in_breadth c_Growth__in_breadth k_Growth__in_breadth, ⟨a_Growth__in_breadth, i_Growth__in_breadth, k_Growth__in_breadth⟩, (fun_mk (st := s_Growth__in_breadth) l_Growth__in_breadth c_Growth__in_breadth k_Growth__in_breadth).binds (ps := ["self"]) fun _ _ _ _ _ _ us hl => match us, hl with | [_], _ => rfl⟩, PySem.W.mg_of X G g_Growth, ⟨pg_Growth, hd_Growth, po_Growth, sa_Growth⟩, nf_Growth_edges, nf_Growth_sizes, nf_Growth_links, nf_Growth_ways⟩
  exact ⟨PySem.W.fnOf "law" "law" (defArgs s_law) (defBody s_law) (defScope s_law) .none kV_law dc_law pm_law an_law cd_law ct_law, fun s v => .of_eq rfl, fun base _ _ => law_all T (fun_mk (st := s_law) l_law c_law k_law)⟩
end SH
open PySem PySem.W PyProof.Rows
set_option maxHeartbeats 0 in
theorem PySem.Challenge.cw_suffixhouse_k04_machines_of_houses_holds : PySem.Challenge.rw_suffixhouse_k04_machines_of_houses.Holds := by
  w_on; o_law; k_head; (case hw => w_witness2)
  k_fill
  refine L2.walk_of (l := PySem.Challenge.rw_suffixhouse_k04_machines_of_houses) (n := 63) (k := 8) (x := "script") (CX := fun _ => L2.CX0) (sp := fun w => SH.spLaw _) rfl (by decide) rfl ⟨rfl, by decide, by decide⟩ (fun w h Y => PySem.W.kIn_of Y) ?F (fun _ _ a ns hl _ hS => ⟨a, ns, rfl, hS, hl, fun _ => rfl⟩) (fun _ _ _ _ _ h => h)
  case F =>
    intro w mg fa h KX G hmg
    refine' SH.all_mk KX G hmg ?z_abs ?z_bool ?z_dict ?z_enumerate ?z_int ?z_isinstance ?z_len ?z_list ?z_min ?z_range ?z_sorted ?z_sum ?z_tuple ?a_machine ?l_machine ?c_machine ?k_machine ?a_states ?l_states ?c_states ?k_states ?a_edge_count ?l_edge_count ?c_edge_count ?k_edge_count ?a__renamed ?l__renamed ?c__renamed ?k__renamed ?a__law_draws ?l__law_draws ?c__law_draws ?k__law_draws ?a__law_at ?l__law_at ?c__law_at ?k__law_at ?a__law_mix ?l__law_mix ?c__law_mix ?k__law_mix ?a__law_letter ?l__law_letter ?c__law_letter ?k__law_letter ?a__law_text ?l__law_text ?c__law_text ?k__law_text ?a__law_house ?l__law_house ?c__law_house ?k__law_house ?a__law_stands ?l__law_stands ?c__law_stands ?k__law_stands ?a__law_words ?l__law_words ?c__law_words ?k__law_words ?a__law_ends ?l__law_ends ?c__law_ends ?k__law_ends ?a__law_classes ?l__law_classes ?c__law_classes ?k__law_classes ?a__law_edges ?l__law_edges ?c__law_edges ?k__law_edges ?a__law_link ?l__law_link ?c__law_link ?k__law_link ?a__law_long ?l__law_long ?c__law_long ?k__law_long ?a_law ?l_law ?c_law ?k_law ?a_Growth___init__ ?i_Growth___init__ ?l_Growth___init__ ?c_Growth___init__ ?k_Growth___init__ ?a_Growth_linked ?i_Growth_linked ?l_Growth_linked ?c_Growth_linked ?k_Growth_linked ?a_Growth_pairs ?i_Growth_pairs ?l_Growth_pairs ?c_Growth_pairs ?k_Growth_pairs ?a_Growth_marked_edges ?i_Growth_marked_edges ?l_Growth_marked_edges ?c_Growth_marked_edges ?k_Growth_marked_edges ?a_Growth_least_size ?i_Growth_least_size ?l_Growth_least_size ?c_Growth_least_size ?k_Growth_least_size ?a_Growth__way_of ?i_Growth__way_of ?l_Growth__way_of ?c_Growth__way_of ?k_Growth__way_of ?a_Growth__after ?i_Growth__after ?l_Growth__after ?c_Growth__after ?k_Growth__after ?a_Growth__led_to ?i_Growth__led_to ?l_Growth__led_to ?c_Growth__led_to ?k_Growth__led_to ?a_Growth__add ?i_Growth__add ?l_Growth__add ?c_Growth__add ?k_Growth__add ?a_Growth__put_in_order ?i_Growth__put_in_order ?l_Growth__put_in_order ?c_Growth__put_in_order ?k_Growth__put_in_order ?a_Growth__in_breadth ?i_Growth__in_breadth ?l_Growth__in_breadth ?c_Growth__in_breadth ?k_Growth__in_breadth ?g_Growth ?pg_Growth ?hd_Growth ?po_Growth ?sa_Growth ?mk_Growth ?kc_Growth ?nf_Growth_edges ?nf_Growth_sizes ?nf_Growth_links ?nf_Growth_ways
    (case g_Growth => first | k_is | rfl)
    (case pg_Growth => first | k_is | rfl)
    (case hd_Growth => first | k_is | rfl)
    (case po_Growth => first | k_is | rfl)
    (case sa_Growth => first | k_is | rfl)
    (case mk_Growth => first | k_is | rfl)
    (case kc_Growth => first | k_is | rfl)
    (case z_abs => first | k_is | rfl)
    (case z_bool => first | k_is | rfl)
    (case z_dict => first | k_is | rfl)
    (case z_enumerate => first | k_is | rfl)
    (case z_int => first | k_is | rfl)
    (case z_isinstance => first | k_is | rfl)
    (case z_len => first | k_is | rfl)
    (case z_list => first | k_is | rfl)
    (case z_min => first | k_is | rfl)
    (case z_range => first | k_is | rfl)
    (case z_sorted => first | k_is | rfl)
    (case z_sum => first | k_is | rfl)
    (case z_tuple => first | k_is | rfl)
    (case a_machine => first | k_is | rfl)
    (case l_machine => first | k_is | rfl)
    (case c_machine => first | k_is | rfl)
    (case k_machine => first | k_is | rfl)
    (case a_states => first | k_is | rfl)
    (case l_states => first | k_is | rfl)
    (case c_states => first | k_is | rfl)
    (case k_states => first | k_is | rfl)
    (case a_edge_count => first | k_is | rfl)
    (case l_edge_count => first | k_is | rfl)
    (case c_edge_count => first | k_is | rfl)
    (case k_edge_count => first | k_is | rfl)
    (case a__renamed => first | k_is | rfl)
    (case l__renamed => first | k_is | rfl)
    (case c__renamed => first | k_is | rfl)
    (case k__renamed => first | k_is | rfl)
    (case a__law_draws => first | k_is | rfl)
    (case l__law_draws => first | k_is | rfl)
    (case c__law_draws => first | k_is | rfl)
    (case k__law_draws => first | k_is | rfl)
    (case a__law_at => first | k_is | rfl)
    (case l__law_at => first | k_is | rfl)
    (case c__law_at => first | k_is | rfl)
    (case k__law_at => first | k_is | rfl)
    (case a__law_mix => first | k_is | rfl)
    (case l__law_mix => first | k_is | rfl)
    (case c__law_mix => first | k_is | rfl)
    (case k__law_mix => first | k_is | rfl)
    (case a__law_letter => first | k_is | rfl)
    (case l__law_letter => first | k_is | rfl)
    (case c__law_letter => first | k_is | rfl)
    (case k__law_letter => first | k_is | rfl)
    (case a__law_text => first | k_is | rfl)
    (case l__law_text => first | k_is | rfl)
    (case c__law_text => first | k_is | rfl)
    (case k__law_text => first | k_is | rfl)
    (case a__law_house => first | k_is | rfl)
    (case l__law_house => first | k_is | rfl)
    (case c__law_house => first | k_is | rfl)
    (case k__law_house => first | k_is | rfl)
    (case a__law_stands => first | k_is | rfl)
    (case l__law_stands => first | k_is | rfl)
    (case c__law_stands => first | k_is | rfl)
    (case k__law_stands => first | k_is | rfl)
    (case a__law_words => first | k_is | rfl)
    (case l__law_words => first | k_is | rfl)
    (case c__law_words => first | k_is | rfl)
    (case k__law_words => first | k_is | rfl)
    (case a__law_ends => first | k_is | rfl)
    (case l__law_ends => first | k_is | rfl)
    (case c__law_ends => first | k_is | rfl)
    (case k__law_ends => first | k_is | rfl)
    (case a__law_classes => first | k_is | rfl)
    (case l__law_classes => first | k_is | rfl)
    (case c__law_classes => first | k_is | rfl)
    (case k__law_classes => first | k_is | rfl)
    (case a__law_edges => first | k_is | rfl)
    (case l__law_edges => first | k_is | rfl)
    (case c__law_edges => first | k_is | rfl)
    (case k__law_edges => first | k_is | rfl)
    (case a__law_link => first | k_is | rfl)
    (case l__law_link => first | k_is | rfl)
    (case c__law_link => first | k_is | rfl)
    (case k__law_link => first | k_is | rfl)
    (case a__law_long => first | k_is | rfl)
    (case l__law_long => first | k_is | rfl)
    (case c__law_long => first | k_is | rfl)
    (case k__law_long => first | k_is | rfl)
    (case a_law => first | k_is | rfl)
    (case l_law => first | k_is | rfl)
    (case c_law => first | k_is | rfl)
    (case k_law => first | k_is | rfl)
    (case a_Growth___init__ => first | k_is | rfl)
    (case i_Growth___init__ => first | k_is | rfl)
    (case l_Growth___init__ => first | k_is | rfl)
    (case c_Growth___init__ => first | k_is | rfl)
    (case k_Growth___init__ => first | k_is | rfl)
    (case a_Growth_linked => first | k_is | rfl)
    (case i_Growth_linked => first | k_is | rfl)
    (case l_Growth_linked => first | k_is | rfl)
    (case c_Growth_linked => first | k_is | rfl)
    (case k_Growth_linked => first | k_is | rfl)
    (case a_Growth_pairs => first | k_is | rfl)
    (case i_Growth_pairs => first | k_is | rfl)
    (case l_Growth_pairs => first | k_is | rfl)
    (case c_Growth_pairs => first | k_is | rfl)
    (case k_Growth_pairs => first | k_is | rfl)
    (case a_Growth_marked_edges => first | k_is | rfl)
    (case i_Growth_marked_edges => first | k_is | rfl)
    (case l_Growth_marked_edges => first | k_is | rfl)
    (case c_Growth_marked_edges => first | k_is | rfl)
    (case k_Growth_marked_edges => first | k_is | rfl)
    (case a_Growth_least_size => first | k_is | rfl)
    (case i_Growth_least_size => first | k_is | rfl)
    (case l_Growth_least_size => first | k_is | rfl)
    (case c_Growth_least_size => first | k_is | rfl)
    (case k_Growth_least_size => first | k_is | rfl)
    (case a_Growth__way_of => first | k_is | rfl)
    (case i_Growth__way_of => first | k_is | rfl)
    (case l_Growth__way_of => first | k_is | rfl)
    (case c_Growth__way_of => first | k_is | rfl)
    (case k_Growth__way_of => first | k_is | rfl)
    (case a_Growth__after => first | k_is | rfl)
    (case i_Growth__after => first | k_is | rfl)
    (case l_Growth__after => first | k_is | rfl)
    (case c_Growth__after => first | k_is | rfl)
    (case k_Growth__after => first | k_is | rfl)
    (case a_Growth__led_to => first | k_is | rfl)
    (case i_Growth__led_to => first | k_is | rfl)
    (case l_Growth__led_to => first | k_is | rfl)
    (case c_Growth__led_to => first | k_is | rfl)
    (case k_Growth__led_to => first | k_is | rfl)
    (case a_Growth__add => first | k_is | rfl)
    (case i_Growth__add => first | k_is | rfl)
    (case l_Growth__add => first | k_is | rfl)
    (case c_Growth__add => first | k_is | rfl)
    (case k_Growth__add => first | k_is | rfl)
    (case a_Growth__put_in_order => first | k_is | rfl)
    (case i_Growth__put_in_order => first | k_is | rfl)
    (case l_Growth__put_in_order => first | k_is | rfl)
    (case c_Growth__put_in_order => first | k_is | rfl)
    (case k_Growth__put_in_order => first | k_is | rfl)
    (case a_Growth__in_breadth => first | k_is | rfl)
    (case i_Growth__in_breadth => first | k_is | rfl)
    (case l_Growth__in_breadth => first | k_is | rfl)
    (case c_Growth__in_breadth => first | k_is | rfl)
    (case k_Growth__in_breadth => first | k_is | rfl)
    (case nf_Growth_edges => first | k_is | rfl)
    (case nf_Growth_sizes => first | k_is | rfl)
    (case nf_Growth_links => first | k_is | rfl)
    (case nf_Growth_ways => first | k_is | rfl)
