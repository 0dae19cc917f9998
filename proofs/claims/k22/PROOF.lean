import PyProof.Rows.All
import Wide.All
import OpenK.AllK
import Wide.FinOn
import PyProof.EqAt
import PyProof.EqKinds
import PyProof.TupleCall
import HandS.ForMost
import HandS.Wide
import HandS.Codes
import HandS.TupLe
import HandS.Star
import HandS.StrMore
import HandS.FStr
import HandS.Evl
import HandS.Exc
import HandS.TryMany
import HandS.ExcInit
import HandS.ExcField
import HandS.WideBits
import HandS.WordsExc
import HandS.Walk
import HandS.SortRule
import KE.SortData
import HandS.Dict
import KE.DataCmp
import HandS.Ends
import PyProof.ReprRoads
import PyProof.ReprLen
import HandS.DictComp
import HandS.Flow
import HandS.Set
import HandS.SetBool
import HandS.SetKeys
import HandS.SortKw
import KE.SortKeyHeap
import HandS.Comp
import HandS.DictTup
import HandS.More
import PyProof.DictMoreH
import KE.KDictCopyH
import KE.KEqDict
import HandS.Deep
import HandS.IsInst
import PySem.Challenge.RW_suffixhouse_k22_papers_of_single_stretch
set_option Elab.async false
set_option linter.all false
set_option maxRecDepth 100000
set_option maxHeartbeats 4000000
namespace SH
open PySem PySem.Spec PyProof.Rows L2
section
variable {P : Program} {w : World} {K : PySem.W.Frag} {mg : Str → Option Value} {base : Heap}
/-- a def of the top as it stands: its text, its name's value, how it binds -/
structure Dd (K : PySem.W.Frag) (mg : Str → Option Value) (x : Str) (st : Stmt) (ps : List Str) : Prop where
  ex : ∃ (f : Addr) (fd : FuncData), Fun K x x st f fd ∧ mg x = some (.ref f) ∧ Binds K fd ps []
/-- a def that lets nothing out, callable by its name -/
abbrev Cl (P : Program) (w : World) (K : PySem.W.Frag) (mg : Str → Option Value) (base : Heap) (k : Nat) (x : Str) (sp : Sp) : Prop := C8.Cal P w K mg base k x sp []
/-- a def that may raise -/
structure ClX (P : Program) (w : World) (K : PySem.W.Frag) (mg : Str → Option Value) (base : Heap) (k : Nat) (x : Str) (sp : Sp) : Prop where
  ex : ∃ (f : Addr) (fd : FuncData) (ps : List Str), FnOk P w K mg base (L2.CX P w) k f fd ps sp ∧ mg x = some (.ref f) ∧ PySem.W.keepIn K (.ref f) = true ∧ Binds K fd ps []
theorem cl_of {x : Str} {st : Stmt} {ps N : List Str} {k : Nat} {sp : Sp} (D : Dd K mg x st ps) (S : FnScope N ps (defScope st)) (len : ∀ vs H Q E, sp vs H Q E → vs.length = ps.length)
    (hbody : ∀ (f : Addr) (cdv : Value) (A : Around) (outer : List Env) (s : Shared) (H : Hp) (vs : List V) (Q : VK) (E : XK), Room k (A.deeper (envOfC x (defScope st) s.heap.objs.size f cdv)) → sp vs H Q E →
      ∃ t, PSs (cxOf CX0 P w K mg base N x (defScope st) f cdv A outer s H E).nox (defBody st) t ∧ t { nx := fun _ H' => Q .non H', rt := Q } (start N vs) H) : Cl P w K mg base (k + 1) x sp := by
  obtain ⟨f, fd, F, hm, b⟩ := D.ex
  exact ⟨f, fd, ps, [], F.ok S len (fun cdv A outer s H vs Q E hr h => hbody f cdv A outer s H vs Q E hr h), hm, F.kp, b, .nil⟩
theorem clx_of {x : Str} {st : Stmt} {ps N : List Str} {k : Nat} {sp : Sp} (D : Dd K mg x st ps) (S : FnScope N ps (defScope st)) (len : ∀ vs H Q E, sp vs H Q E → vs.length = ps.length)
    (hbody : ∀ (f : Addr) (cdv : Value) (A : Around) (outer : List Env) (s : Shared) (H : Hp) (vs : List V) (Q : VK) (E : XK), Room k (A.deeper (envOfC x (defScope st) s.heap.objs.size f cdv)) → sp vs H Q E →
      ∃ t, PSs (cxOf (L2.CX P w) P w K mg base N x (defScope st) f cdv A outer s H E) (defBody st) t ∧ t { nx := fun _ H' => Q .non H', rt := Q } (start N vs) H) : ClX P w K mg base (k + 1) x sp := by
  obtain ⟨f, fd, F, hm, b⟩ := D.ex
  exact ⟨f, fd, ps, F.okX S len (fun cdv A outer s H vs Q E hr h => hbody f cdv A outer s H vs Q E hr h), hm, F.kp, b⟩
end
section
variable {X : Cx} {k j : Nat} {x : Str} {sp : Sp} {p pos : Pos} {e : Expr} {es : List Expr} {t : TA}
/-- f(e, ..) of a def that may raise, in a try's body or where it passes on -/
theorem pe_cx (c : ClX X.prog X.w X.K X.mg X.base k x sp) {E : L2.St → XK} (hr : Room j X.A) (hk : k ≤ j) (hx : ∀ σ, PassesAt (L2.CX X.prog X.w) X σ (E σ)) (hg : Gl X x) (ha : PA X (e :: es) t)
    (hdb : (x == ("__debug__" : Str)) = false := by decide) (he : starEach (e :: es) X.env = (false, eval e X.env) :: starEach es X.env := by rfl) (hpl : (backTo pos (starEach es X.env)).any (·.1) = false := by rfl) :
    PE X (.Call (.Name x p) (e :: es) [] pos) (tCallS sp E t) := by
  obtain ⟨f, fd, ps, F, hm, kp, b⟩ := c.ex
  exact pe_callS F (hr.mono hk) hg hm kp b hx ha hdb he hpl
end
theorem ixt {X : Cx} {K : PySem.W.Frag} (h : X.K = K := by rfl) : IxR X (rIxT K) := h ▸ ix_tup
theorem ixl {X : Cx} {K : PySem.W.Frag} (h : X.K = K := by rfl) : IxR X (rIxL K) := h ▸ ix_list
/-- a module's number -/
theorem pe_k {X : Cx} {x : Str} {pos : Pos} {v : Int} (h : ∃ t, X.mg x = some (.int v t)) (hg : Gl X x := by rfl) (hdb : (x == ("__debug__" : Str)) = false := by decide) : PE X (.Name x pos) (tC (.int v)) := by
  obtain ⟨t, h⟩ := h
  exact pe_glob hg h ⟨t, rfl⟩ hdb
/-! ### numbers drawn: a list of small numbers -/
def Dr (ns : List Int) : Prop := ns.length ≤ 4000 ∧ ∀ n ∈ ns, 0 ≤ n ∧ n < 65536
/-- r(draws, k, many): a number from 0 below many -/
def spDraw (K : PySem.W.Frag) : Sp := fun vs H Q _ => ∃ (a : Addr) (ns : List Int) (k many : Int), vs = [.ref a, .int k, .int many] ∧ SqL K H a (ns.map V.int) ∧ Dr ns ∧ 0 ≤ k ∧ k < 100000 ∧ 0 < many ∧ ∀ r : Int, 0 ≤ r → r < many → Q (.int r) H
theorem at_ints {ns : List Int} {i : Int} (h0 : 0 ≤ i) (h1 : i < ns.length) : ∃ z, atI (ns.map V.int) i = some (.int z) ∧ z ∈ ns := by
  obtain ⟨j, rfl⟩ : ∃ j : Nat, i = j := ⟨i.toNat, by omega⟩
  have hj : j < ns.length := by omega
  refine ⟨ns[j], ?_, List.getElem_mem hj⟩
  refine atI_nat ?_
  rw [List.getElem?_map, List.getElem?_eq_getElem hj]
  rfl
/-! ### heaps -/
theorem same_new {H : Hp} {p : Addr} {o : HO} (h : H p = none) : Same H (upd H p o) := fun b x e => by
  rw [upd_ne (ne_of_none e h)]
  exact e
theorem same_mut {H H' : Hp} {p : Addr} {o : HO} (e : Same H H') (h : H p = none) : Same H (upd H' p o) := fun b x hb => by
  rw [upd_ne (ne_of_none hb h)]
  exact e b x hb
theorem same_tup {K : PySem.W.Frag} {H H' : Hp} {a : Addr} {xs : List V} (e : Same H H') (h : SqT K H a xs) : SqT K H' a xs := by
  rcases h with (h | ⟨o, h⟩) | h
  · exact .inl (.inl (e _ _ h))
  · exact .inl (.inr ⟨o, e _ _ h⟩)
  · exact .inr h
/-! ### texts of letters -/
def okc (c : Nat) : Bool := decide (32 ≤ c) && (decide (c ≤ 126) && decide (c ≠ 37))
def IsLet (z : Str) : Prop := z.cps.toList.all okc = true
instance (z : Str) : Decidable (IsLet z) := inferInstanceAs (Decidable (_ = true))
theorem str_at {z : Str} {i : Int} (h0 : 0 ≤ i) (h1 : i < (z.cps.toList.length : Int)) : ∃ c, atI z.cps.toList i = some c ∧ c ∈ z.cps.toList := by
  obtain ⟨j, rfl⟩ : ∃ j : Nat, i = j := ⟨i.toNat, by omega⟩
  have hj : j < z.cps.toList.length := by omega
  exact ⟨z.cps.toList[j], atI_nat (List.getElem?_eq_getElem hj), List.getElem_mem hj⟩
theorem let_at {z : Str} {c : Nat} (h : IsLet z) (hc : c ∈ z.cps.toList) : IsLet ⟨#[c]⟩ := by
  have := List.all_eq_true.mp h c hc
  show ([c].all okc) = true
  simp [this]
theorem let_app {a b : Str} (ha : IsLet a) (hb : IsLet b) : IsLet (a ++ b) := by
  have e : (a ++ b).cps.toList = a.cps.toList ++ b.cps.toList := TL.tl_append a b
  show (a ++ b).cps.toList.all okc = true
  rw [e, List.all_append, Bool.and_eq_true]
  exact ⟨ha, hb⟩
theorem len_app (a b : Str) : (a ++ b).length = a.length + b.length := by
  have e : (a ++ b).cps.toList = a.cps.toList ++ b.cps.toList := TL.tl_append a b
  have e2 := congrArg List.length e
  rw [List.length_append] at e2
  simpa [Str.length] using e2
theorem at_map {α : Type} (f : α → V) {xs : List α} {i : Int} (h0 : 0 ≤ i) (h1 : i < xs.length) : ∃ x, atI (xs.map f) i = some (f x) ∧ x ∈ xs := by
  obtain ⟨j, rfl⟩ : ∃ j : Nat, i = j := ⟨i.toNat, by omega⟩
  have hj : j < xs.length := by omega
  refine ⟨xs[j], ?_, List.getElem_mem hj⟩
  refine atI_nat ?_
  rw [List.getElem?_map, List.getElem?_eq_getElem hj]
  rfl
theorem ixs_let {z : Str} {j : Int} {H : Hp} {Q : VK} (hz : IsLet z) (hl : z.length ≤ sizeLine) (h0 : 0 ≤ j) (h1 : j < (z.cps.toList.length : Int)) (h : ∀ c, okc c = true → Q (.str ⟨#[c]⟩) H) : rIxS (.str z) (.int j) H Q := by
  obtain ⟨c, hc, hm⟩ := str_at h0 h1
  exact ⟨z, j, c, rfl, rfl, hl, hc, h c (List.all_eq_true.mp hz c hm)⟩
theorem let_one {c : Nat} (h : okc c = true) : IsLet ⟨#[c]⟩ := by
  show ([c].all okc) = true
  simp [h]
/-! ### houses: pairs of a number and a text, each at its address -/
abbrev PL := List (Addr × Int × Str)
def refs (L : PL) : List V := L.map fun q => V.ref q.1
def PairsAt (K : PySem.W.Frag) (H : Hp) (L : PL) : Prop := ∀ q ∈ L, SqT K H q.1 [.int q.2.1, .str q.2.2]
def HsAt (K : PySem.W.Frag) (H : Hp) (a : Addr) (L : PL) : Prop := SqL K H a (refs L) ∧ PairsAt K H L
theorem PairsAt.same {K : PySem.W.Frag} {H H' : Hp} {L : PL} (e : Same H H') (h : PairsAt K H L) : PairsAt K H' L := fun q hq => same_tup e (h q hq)
theorem HsAt.same {K : PySem.W.Frag} {H H' : Hp} {a : Addr} {L : PL} (e : Same H H') (h : HsAt K H a L) : HsAt K H' a L := ⟨e.seq h.1, h.2.same e⟩
/-- numbers ascending from 0 to 99, texts of at most m letters -/
structure IsHs (m : Nat) (h : List (Int × Str)) : Prop where
  asc : (h.map (·.1)).Pairwise (· < ·)
  num : ∀ q ∈ h, 0 ≤ q.1 ∧ q.1 ≤ 99
  txt : ∀ q ∈ h, IsLet q.2 ∧ q.2.length ≤ m
/-- == of data, the frame said -/
theorem op_eqDK {X : Cx} {K : PySem.W.Frag} (hu : X.A.units + 64 < cLine) (h : X.K = K := by rfl) : OpR X (compareOp .Eq) (rEqD K) := h ▸ op_eqD hu
theorem op_neDK {X : Cx} {K : PySem.W.Frag} (hu : X.A.units + 64 < cLine) (h : X.K = K := by rfl) : OpR X (compareOp .NotEq) (rNeD K) := h ▸ op_neD hu
end SH
set_option Elab.async false
set_option linter.all false
set_option maxRecDepth 100000
set_option maxHeartbeats 4000000
/-! except clauses, any number, with and without a name -/
namespace SH
open PySem PySem.Spec PyProof.Rows L2
abbrev Suite := Addr → Value → Option Addr → TS
/-- behind a suite whose name is forgotten -/
def gone (i : Nat) (D : Ends) : Ends :=
  ⟨fun τ G => D.nx (τ.set i none) G, D.rt, fun τ G => D.bk (τ.set i none) G, fun τ G => D.ct (τ.set i none) G⟩
/-- how a suite is entered: with its name in slot i, or without one -/
def enter (o : Option Nat) (ts : Suite) (a : Addr) (c : Value) (d : Option Addr) (D : Ends) (τ : L2.St) (G : Hp) : Prop :=
  match o with
  | none => ts a c d D τ G
  | some i => ts a c d (gone i D) (τ.set i (some (.ref a))) G
/-- the clauses' wishes: the first that matches -/
def wHds (K : PySem.W.Frag) (Wo : WX) (D : Ends) : List (Value × Option Nat × Suite) → WX
  | [] => Wo
  | q :: r => fun c d τ G => ∃ b, PySem.W.exmOne K c q.1 = some b ∧ (b = true → ∀ a, G a = none → enter q.2.1 q.2.2 a c d D τ G) ∧ (b = false → wHds K Wo D r c d τ G)
/-- a suite's text does what ts says -/
def SuiteOk (X : Cx) (sts : List Stmt) (ts : Suite) : Prop :=
  ∀ (a : Addr) (o : Obj) (c : Value) (d : Option Addr) (l : List (Addr × Obj)), Zc c d o → (∃ f, o.data = .fields f) → PSs (X.suite a ((a, o) :: l)) sts (ts a c d)
inductive HdsN (X : Cx) : List ExceptHandler → List (Value × Option Nat × Suite) → Prop
  | nil : HdsN X [] []
  | cons {x : Str} {c : Value} {ts : Suite} {u : Stmt} {us : List Stmt} {p p' : Pos} {hs : List ExceptHandler} {l : List (Value × Option Nat × Suite)} :
      Names X x c → SuiteOk X (u :: us) ts → HdsN X hs l → HdsN X (.ExceptHandler (some (.Name x p)) none (u :: us) p' :: hs) ((c, none, ts) :: l)
  | named {x n : Str} {i : Nat} {c : Value} {ts : Suite} {u : Stmt} {us : List Stmt} {p p' : Pos} {hs : List ExceptHandler} {l : List (Value × Option Nat × Suite)} :
      Names X x c → X.N.Nodup → X.N[i]? = some n → X.env.kindOf n = some .local → SuiteOk X (u :: us) ts → HdsN X hs l → HdsN X (.ExceptHandler (some (.Name x p)) (some n) (u :: us) p' :: hs) ((c, some i, ts) :: l)
/-- an exception that has come down to this frame: at a, of the class c, with its dict d, over the ground B -/
structure Down (X : Cx) (pins : List (Addr × Obj)) (B : Heap) (a : Addr) (c : Value) (d : Option Addr) (τ : L2.St) (G : Hp) (s : Shared) : Prop where
  st : X.stack = X.env :: X.outer
  fr : X.env.frame = some X.env.locals
  fl : HandSPX.FlyingZ B (X.env :: X.outer) a (Zc c d) s.heap
  on : ∀ h, B.StaysIn h → s.heap.UpToSlots h → Inv X pins τ G { s with heap := h }
  ok : Inv X pins τ G s
  no : G a = none
  out : ∀ (h : Heap) (W : WX), HandSPX.HeldZ B (X.env :: X.outer) a (Zc c d) X.env.locals h → s.heap.UpToSlots h → W c d τ G → XE X W (.ref a) { s with heap := h }
section
variable {X : Cx} {pins : List (Addr × Obj)} {B : Heap} {a : Addr} {c : Value} {d : Option Addr} {τ : L2.St} {G : Hp} {s : Shared}
theorem Down.inner (Y : Down X pins B a c d τ G s) : ∃ o, s.heap.get? a = some o ∧ Zc c d o ∧ (∃ f, o.data = .fields f) ∧ Inv (X.suite a ((a, o) :: (X.pn ++ pins))) [] τ G s := by
  obtain ⟨o, f, ga, za, da⟩ := Y.fl.there
  have away : a ∉ frs (X.env :: X.outer) := by
    intro m
    obtain ⟨-, o', g', nf⟩ := Y.fl.2.2.1.mem m
    cases ga.symm.trans g'
    exact nf _ da
  refine ⟨o, ga, za, ⟨f, da⟩, Y.ok.suite ga da Y.no ?_ ?_⟩
  · intro z
    refine away (List.mem_filterMap.mpr ⟨X.env, List.mem_cons_self, ?_⟩)
    rw [Y.fr, z]
  · intro m
    obtain ⟨e, me, q⟩ := List.mem_filterMap.mp m
    exact away (List.mem_filterMap.mpr ⟨e, List.mem_cons_of_mem _ me, q⟩)
/-- the clause's name is asked, and whether the exception is of it -/
theorem Down.asked (Y : Down X pins B a c d τ G s) {x : Str} {p : Pos} {cl : Value} {b : Bool} (nm : Names X x cl) (hb : PySem.W.exmOne X.K c cl = some b) {Q : Bool → Shared → Prop} {E : Value → Shared → Prop} (q : Q b s) :
    wpAny (model X.prog X.w) (X.A.mark (some (.ref a))) (eval (.Name x p) X.env) (fun u s1 => wpAny (model X.prog X.w) (X.A.mark (some (.ref a))) (excMatches (.ref a) u) Q E s1) E s := by
  obtain ⟨o, ga, za, -, S⟩ := Y.inner
  have ty : PySem.W.Looks (model X.prog X.w) s.heap (typeOf (.ref a)) c := fun _ _ _ _ k z => wpAny_typeOf_ref (k _ _ ga) (by rw [za.1]; exact z)
  have mt := (PySem.W.exm_one (M := model X.prog X.w) Y.ok.kIn ty hb).here (A := X.A.mark (some (.ref a))) (Q := Q) (E := E) q
  obtain ⟨g, nd, hm | ⟨hm, hv, nn⟩⟩ := nm
  · exact ld_glob (X := X.suite a ((a, o) :: (X.pn ++ pins))) S g hm mt nd
  · exact ld_blt (X := X.suite a ((a, o) :: (X.pn ++ pins))) S g hm hv mt nn nd
/-- once more at the suite's beginning -/
theorem Down.again (Y : Down X pins B a c d τ G s) {h : Heap} (f : HandSPX.FlyingZ B (X.env :: X.outer) a (Zc c d) h) (u : s.heap.UpToSlots h) : Down X pins B a c d τ G { s with heap := h } :=
  ⟨Y.st, Y.fr, f, fun g k v => Y.on g k (u.trans v), Y.on h f.1 u, Y.no, fun g W k v w => Y.out g W k (u.trans v) w⟩
theorem Down.handle (Y : Down X pins B a c d τ G s) {D : Ends} {Wo : WX} (tk : Takes X Wo) {hs : List ExceptHandler} {l : List (Value × Option Nat × Suite)} (hk : HdsN X hs l) :
    wHds X.K Wo D l c d τ G → wpAny (model X.prog X.w) X.A (handleBy (.ref a) X.env hs) (SP X pins D) X.xe s := by
  induction hk with
  | nil =>
    intro wish
    refine wpAny_handleBy_nil ?_
    obtain ⟨-, -, -, o, f, T, -, -, go, -, dat, f1, -⟩ := id Y.fl
    unfold PySem.passOn
    refine wpAny_bind (wpAny_field go dat f1 ?_)
    rw [if_neg (by simp : ¬ ((Value.ref T == Value.none) = true))]
    have up : wpAny (model X.prog X.w) X.A (setFlight (.ref a) X.env.frame) (fun _ s4 => wpAny (model X.prog X.w) X.A (throw (.ref a) : Sem Flow) (SP X pins D) X.xe s4) X.xe s := by
      rw [Y.fr]
      exact HandSPX.setFlight_upZ Y.fl fun h held u => wpAny_throw (tk _ _ (Y.out h _ held u wish))
    first
      | exact wpAny_bind (wpAny_pure (wpAny_bind up))
      | exact wpAny_bind up
  | @cons x cl ts u us p p' hs l nm so r ih =>
    rintro ⟨b, hb, yes, no⟩
    refine wpAny_handleBy_cons (codeAny_handlers_test (Y.asked nm hb ?_)) (fun z => nomatch z)
    match b, yes, no with
    | false, _, no => exact ih (no rfl)
    | true, yes, _ =>
      refine codeAny_handlers_suite (HandSPX.lands_againZ Y.fl fun h f v => ?_)
      obtain ⟨o, -, zo, fo, S⟩ := (Y.again f v).inner
      refine wpAny_mono ((so a o c d (X.pn ++ pins) zo fo).run [] _ _ G _ S (yes rfl a Y.no)) ?_ (fun _ _ z => z.elim)
      intro g s6 hsp
      match g, hsp with
      | .next, ⟨τ6, G6, S6, z⟩ => exact ⟨τ6, G6, S6.unsuite Y.ok.ok, z⟩
      | .brk, ⟨τ6, G6, S6, z⟩ => exact ⟨τ6, G6, S6.unsuite Y.ok.ok, z⟩
      | .cont, ⟨τ6, G6, S6, z⟩ => exact ⟨τ6, G6, S6.unsuite Y.ok.ok, z⟩
      | .ret u, ⟨v6, τ6, G6, S6, r6, z⟩ => exact ⟨v6, τ6, G6, S6.unsuite Y.ok.ok, r6, z⟩
  | @named x n i cl ts u us p p' hs l nm hN hi ho so r ih =>
    rintro ⟨b, hb, yes, no⟩
    refine wpAny_handleBy_cons (codeAny_handlers_test (Y.asked nm hb ?_)) (fun z => nomatch z)
    match b, yes, no with
    | false, _, no => exact ih (no rfl)
    | true, yes, _ =>
      refine codeAny_handlers_suite_as (HandSPX.lands_againZ Y.fl fun h f v => ?_)
      obtain ⟨o, -, zo, fo, S⟩ := (Y.again f v).inner
      refine store_ok (X := X.suite a ((a, o) :: (X.pn ++ pins))) (v := .ref a) S hN hi (.inl ho) rfl (fun s5 S5 => ?_) (.inr ho)
      refine wpAny_mono ((so a o c d (X.pn ++ pins) zo fo).run [] s5 _ G _ S5 (yes rfl a Y.no)) ?_ (fun _ _ z => z.elim)
      intro g s6 hsp
      match g, hsp with
      | .next, ⟨τ6, G6, S6, z⟩ => exact gone_ok (S6.unsuite Y.ok.ok) hN hi ho fun s7 J => ⟨τ6.set i none, G6, J, z⟩
      | .brk, ⟨τ6, G6, S6, z⟩ => exact gone_ok (S6.unsuite Y.ok.ok) hN hi ho fun s7 J => ⟨τ6.set i none, G6, J, z⟩
      | .cont, ⟨τ6, G6, S6, z⟩ => exact gone_ok (S6.unsuite Y.ok.ok) hN hi ho fun s7 J => ⟨τ6.set i none, G6, J, z⟩
      | .ret u, ⟨v6, τ6, G6, S6, r6, z⟩ => exact gone_ok (S6.unsuite Y.ok.ok) hN hi ho fun s7 J => ⟨v6, τ6.set i none, G6, J, r6, z⟩
end
/-- try: body, any clauses -/
theorem ps_try_hds {X : Cx} {body : List Stmt} {h₀ : ExceptHandler} {hs : List ExceptHandler} {l : List (Value × Option Nat × Suite)} {pos : Pos} {tb : WX → TS} {Wo : WX}
    (st : X.stack = X.env :: X.outer) (fr : X.env.frame = some X.env.locals) (tk : Takes X Wo)
    (bo : ∀ (W : WX) (pn : List (Addr × Obj)) (xe : Value → Shared → Prop), Takes (X.tr pn xe) W → PassesOwn (model X.prog X.w) X.A X.env xe → PSs (X.tr pn xe) body (tb W))
    (hk : HdsN X (h₀ :: hs) l) : PS X (.Try body (h₀ :: hs) [] [] pos) (fun D τ G => tb (wHds X.K Wo D l) D τ G) := by
  constructor
  intro pins s τ G D I q
  have ok := I.ok
  refine wpAny_Try_except (wpAny_mono ((bo (wHds X.K Wo D l) (X.pn ++ pins) _ ?_ PassesOwn.looking).run [] s τ G D (I.toTry _) q) (fun f s1 r => ?_) (fun e s1 r => r))
  · rintro u s2 ⟨a, B, sI, pins', τ2, G2, c, d, rfl, J', nb, up, sky, na, os, ag, wish⟩
    have J := J'.ofTry ok
    have sky2 : Sky B (X.env :: X.outer) a (Zc c d) X.env.locals s2.heap := st ▸ sky
    refine Sky.land Zc.steady (by rw [ok.frames, st]) fr sky2 (fun h f v => ?_)
    refine Down.handle (B := B) (a := a) (c := c) (d := d) (τ := τ2) (G := G2) (s := { s2 with heap := h }) ⟨st, fr, f, fun g k z => J.landed nb k ((up.trans v).trans z) os ag, J.landed nb f.1 (up.trans v) os ag, na, fun g W k z w => ?_⟩ tk hk wish
    exact ⟨a, B, sI, pins, τ2, G2, c, d, rfl, J, nb, (up.trans v).trans z, .inr (.inr (by rw [st]; exact k)), na, os, ag, w⟩
  · match f, r with
    | .next, ⟨τ2, G2, J, z⟩ => exact wpAny_execs_nil ⟨τ2, G2, J.ofTry ok, z⟩
    | .brk, ⟨τ2, G2, J, z⟩ => exact ⟨τ2, G2, J.ofTry ok, z⟩
    | .cont, ⟨τ2, G2, J, z⟩ => exact ⟨τ2, G2, J.ofTry ok, z⟩
    | .ret u, ⟨v, τ2, G2, J, r2, z⟩ => exact ⟨v, τ2, G2, J.ofTry ok, r2, z⟩
end SH
set_option Elab.async false
set_option linter.all false
set_option maxRecDepth 100000
set_option maxHeartbeats 4000000
/-! errors with a number: made by the base's __init__, raised, caught, asked for their number -/
namespace SH
open PySem PySem.Spec PyProof.Rows L2
/-- numbers that an error is made with here -/
def Small (n : Int) : Prop := n.natAbs < 2 ^ 200
theorem small_bits {n : Int} (h : Small n) : decide ((1000 : Int) < ((Builtin.Int.intBits n : Nat) : Int)) = false := by
  have a := PySem.Flt.log2_lt_of (by decide : 0 < 200) h
  have b : Builtin.Int.intBits n ≤ n.natAbs.log2 + 1 := by
    unfold Builtin.Int.intBits
    split <;> omega
  refine decide_eq_false ?_
  omega
theorem small_of {n : Int} (h0 : -1000000 ≤ n) (h1 : n ≤ 1000000) : Small n := Nat.lt_of_le_of_lt (by omega : n.natAbs ≤ 1000000) (by decide)
/-- __init__(self, at) at a new exception: its dict gets the number -/
def spInitAt (K : PySem.W.Frag) : Sp := fun vs H Q _ => ∃ (a C : Addr) (n : Int), vs = [.ref a, .int n] ∧ OexC K C ∧ PySem.W.findIn K (.ref C) "at" = some none ∧ Small n ∧ H a = some (exo a C none) ∧
  ∀ dx : Addr, H dx = none → dx ≠ a → Q .non (upd (upd H dx (exd dx [(("at" : Str), .int n)])) a (exo a C (some dx)))
/-- what the top says of an error's class -/
structure ErrC (K : PySem.W.Frag) (mg : Str → Option Value) (x : Str) (C fI : Addr) : Prop where
  g : mg x = some (.ref C)
  o : OexC K C
  i : PySem.W.findIn K (.ref C) "__init__" = some (some (.ref fI))
  no : PySem.W.findIn K (.ref C) "at" = some none
  f : XfC K C
/-- .. and of the __init__ -/
structure InitOk (P : Program) (w : World) (K : PySem.W.Frag) (mg : Str → Option Value) (base : Heap) (fI : Addr) : Prop where
  ex : ∃ fd : FuncData, FnOk P w K mg base CX0 1 fI fd ["self", "at"] (spInitAt K) ∧ Binds K fd ["self", "at"] [] ∧ PySem.W.typeIn K (.ref fI) = some (.type "function")
/-- .. as it stands in the text -/
structure DdI (K : PySem.W.Frag) (q : Str) (st : Stmt) (fI : Addr) : Prop where
  ex : ∃ fd : FuncData, Fun K "__init__" q st fI fd ∧ Binds K fd ["self", "at"] [] ∧ PySem.W.typeIn K (.ref fI) = some (.type "function")
section
variable {X : Cx} {k : Nat} {x : Str} {C fI : Addr} {e : Expr} {ta : TA} {p pos : Pos}
/-- x(e): a new error of the class at C -/
theorem pmk_at (T : ErrC X.K X.mg x C fI) (I : InitOk X.prog X.w X.K X.mg X.base fI) (hr : Room k X.A) (hk : 2 ≤ k) (hg : Gl X x) (ha : PA X (e :: []) ta)
    (hd : (x == ("__debug__" : Str)) = false := by decide) (he : starEach (e :: []) X.env = (false, eval e X.env) :: starEach [] X.env := by rfl) (hp : (backTo pos (starEach [] X.env)).any (·.1) = false := by rfl) :
    PMk X (.Call (.Name x p) (e :: []) [] pos) (tMkO C (spInitAt X.K) [] ta) := by
  obtain ⟨fd, F, b, t⟩ := I.ex
  exact pmk_oex T.o T.i t F (hr.mono hk) b .nil pass0 hg T.g ha hd he hp
end
/-- the reading of a made error, behind its argument -/
theorem mk_at {K : PySem.W.Frag} {C : Addr} {H1 : Hp} {n : Int} {Q : XK} (To : OexC K C) (Tn : PySem.W.findIn K (.ref C) "at" = some none) (hs : Small n)
    (go : ∀ (d : Addr) (H2 : Hp), Same H1 H2 → H1 d = none → H2 d = some (.xd [(("at" : Str), .int n)]) → Q (.ref C) (some d) H2) :
    [V.int n].length ≤ 1000 ∧ ∀ a, H1 a = none → spInitAt K (.ref a :: ([V.int n] ++ [])) (upd H1 a (exo a C none))
      (fun v H2 => v = .non ∧ ∃ (d : Addr) (fs : List (Str × V)), H2 a = some (exo a C (some d)) ∧ H2 d = some (exd d fs) ∧ H1 d = none ∧ Q (.ref C) (some d) (upd (del H2 a) d (.xd fs))) (fun _ _ _ => False) := by
  refine ⟨(by show 1 ≤ 1000; decide), fun a na => ⟨a, C, n, rfl, To, Tn, hs, upd_same, fun dx ndx ne => ⟨rfl, dx, [(("at" : Str), V.int n)], upd_same, ?_, ?_, ?_⟩⟩⟩
  · rw [upd_ne ne, upd_same]
  · rw [upd_ne ne] at ndx
    exact ndx
  · rw [upd_ne ne] at ndx
    refine go dx _ (fun b o hb => ?_) ndx upd_same
    have b1 : b ≠ dx := ne_of_none hb ndx
    have b2 : b ≠ a := ne_of_none hb na
    rw [upd_ne b1, del_ne b2, upd_ne b2, upd_ne b1, upd_ne b2]
    exact hb
theorem wHds_skip {K : PySem.W.Frag} {Wo : WX} {D : Ends} {q : Value × Option Nat × Suite} {r : List (Value × Option Nat × Suite)} {c : Value} {d : Option Addr} {τ : L2.St} {G : Hp} (h : PySem.W.exmOne K c q.1 = some false)
    (go : wHds K Wo D r c d τ G) : wHds K Wo D (q :: r) c d τ G := ⟨false, h, (fun z => Bool.noConfusion z), fun _ => go⟩
theorem wHds_take {K : PySem.W.Frag} {Wo : WX} {D : Ends} {q : Value × Option Nat × Suite} {r : List (Value × Option Nat × Suite)} {c : Value} {d : Option Addr} {τ : L2.St} {G : Hp} (h : PySem.W.exmOne K c q.1 = some true)
    (go : ∀ a, G a = none → enter q.2.1 q.2.2 a c d D τ G) : wHds K Wo D (q :: r) c d τ G := ⟨true, h, (fun _ => go), (fun z => Bool.noConfusion z)⟩
theorem exm_of {K : PySem.W.Frag} {C D : Addr} {b : Bool} (h1 : PySem.W.subIn K (.ref D) (.type "BaseException") = some true) (h2 : PySem.W.isClsIn K D = true) (h3 : PySem.W.typeIn K (.ref D) = some (.type "type"))
    (h4 : PySem.W.subIn K (.ref C) (.ref D) = some b) : PySem.W.exmOne K (.ref C) (.ref D) = some b := by
  have c1 : (PySem.W.subIn K (.ref D) (.type "BaseException") == some true) = true := by rw [h1]; rfl
  have c2 : ((PySem.W.clsIn K D).isSome && PySem.W.typeIn K (.ref D) == some (.type "type")) = true := by
    have h2' : (PySem.W.clsIn K D).isSome = true := h2
    rw [h3, h2']; rfl
  unfold PySem.W.exmOne
  rw [if_pos c1]
  show (if ((PySem.W.clsIn K D).isSome && PySem.W.typeIn K (.ref D) == some (.type "type")) = true then PySem.W.subIn K (.ref C) (.ref D) else none) = some b
  rw [if_pos c2]
  exact h4
end SH
set_option Elab.async false
set_option linter.all false
set_option maxRecDepth 100000
set_option maxHeartbeats 4000000
namespace SH
open PySem PySem.Spec PyProof.Rows L2
/-! comprehensions whose steps only add to the heap: RL tells what the list made so far is -/
/-- all but what stands at D is as it was -/
def But (D : Addr) (H H' : Hp) : Prop := ∀ b o, b ≠ D → H b = some o → H' b = some o
theorem but_upd {D : Addr} {H : Hp} {o : HO} : But D H (upd H D o) := fun b x n e => by
  rw [upd_ne n]
  exact e
theorem but_tup {K : PySem.W.Frag} {D t : Addr} {H H' : Hp} {l xs : List V} (hD : H D = some (.lst l)) (e : But D H H') (h : SqT K H t xs) : SqT K H' t xs := by
  rcases h with h | h
  · rcases h with h | h
    · refine Or.inl (Or.inl (e _ _ (fun z => ?_) h))
      rw [z, hD] at h
      cases h
    · obtain ⟨o, h⟩ := h
      refine Or.inl (Or.inr ⟨o, e _ _ (fun z => ?_) h⟩)
      rw [z, hD] at h
      cases h
  · exact Or.inr h
theorem but_pairs {K : PySem.W.Frag} {D : Addr} {H H' : Hp} {l : List V} {L : PL} (hD : H D = some (.lst l)) (e : But D H H') (h : PairsAt K H L) : PairsAt K H' L := fun q hq => but_tup hD e (h q hq)
section
variable {J : It} {n : Nat} {G : Hp → Prop} {Y : Nat → Hp → V → Hp → Prop}
theorem lc_w (w : Walk J n G Y) {g : TG} {tt : TT} {te : TE} {vs : List Nat} {τ : L2.St} {H1 : Hp} {D : Addr} {Qd : Hp → Prop} (hD : H1 D = none) (hn : n ≤ 100000) (hG : ∀ H, Same H1 H → G H)
    (RL : Nat → List V → Hp → Prop) (h0 : ∀ H, Same H1 H → RL 0 [] H) (mono : ∀ i acc H H' l, H D = some (.lst l) → But D H H' → RL i acc H → RL i acc H')
    (hY : ∀ i H x H', Y i H x H' → Same H H')
    (hs : ∀ (i : Nat) (x : V) (acc : List V) (H H' : Hp) (Qn : VK) (Qf : Hp → Prop), i < n → Same H1 H' → Y i H x H' → RL i acc H' → H' D = some (.lst acc) → (∀ y H4, Same H' H4 → RL (i + 1) (acc ++ [y]) H4 → Qn y H4) → (∀ H3, Same H' H3 → RL (i + 1) acc H3 → Qf H3) →
      g x (wipe τ vs) H' fun τ2 H2 => wipe τ2 vs = wipe τ vs ∧ tt τ2 H2 fun b H3 => if b = true then te τ2 H3 Qn else Qf H3)
    (hd : ∀ acc H, Same H1 H → H D = some (.lst acc) → acc.length ≤ n → RL n acc H → Qd H) :
    ∃ W : Nat → Nat → Hp → Prop, (∃ m, W 0 m (upd H1 D (.lst []))) ∧ ∀ i m H, W i m H →
      (J.stop i H ∧ Qd H) ∨ (J.go i H ∧ ∃ Nx : Hp → Prop, (∀ H', Nx H' → ∃ m', m' < m ∧ W (i + 1) m' H') ∧ ∀ x H', J.yld i H x H' → g x (wipe τ vs) H' fun τ2 H2 => wipe τ2 vs = wipe τ vs ∧ tt τ2 H2 fun b H3 =>
        if b = true then te τ2 H3 fun y H4 => ∃ acc, H4 D = some (.lst acc) ∧ acc.length < sizeLine ∧ Nx (upd H4 D (.lst (acc ++ [y]))) else Nx H3) := by
  refine lc_it w (fun i H => ∃ acc, Same H1 H ∧ H D = some (.lst acc) ∧ acc.length ≤ i ∧ RL i acc H) ⟨[], same_new hD, upd_same, Nat.le_refl _, h0 _ (same_new hD)⟩ (fun i H _ p => ?_) (fun i x H H' hi p y => ?_) (fun H p => ?_)
  · obtain ⟨acc, e, _⟩ := p
    exact hG H e
  · obtain ⟨acc, e, at_, hl, r⟩ := p
    have e1 := hY i H x H' y
    have at1 := e1 _ _ at_
    refine hs i x acc H H' _ _ hi (e.trans e1) y (mono i acc H H' acc at_ (fun b o _ h => e1 b o h) r) at1 (fun z H4 e2 r2 => ?_) (fun H3 e2 r2 => ?_)
    · have at2 := e2 _ _ at1
      refine ⟨acc, at2, Nat.lt_of_le_of_lt (Nat.le_trans hl (Nat.le_of_lt (Nat.lt_of_lt_of_le hi hn))) (by decide), acc ++ [z], same_mut ((e.trans e1).trans e2) hD, upd_same, by simp; omega, mono _ _ H4 _ acc at2 but_upd r2⟩
    · exact ⟨acc, (e.trans e1).trans e2, e2 _ _ at1, by omega, r2⟩
  · obtain ⟨acc, e, at_, hl, r⟩ := p
    exact hd acc H e at_ hl r
end
/-! ### numbers and texts -/
theorem lt1 (c d : Nat) : decide (([c] : List Nat) < [d]) = decide (c < d) := by
  by_cases h : c < d
  · rw [decide_eq_true h]
    exact decide_eq_true (List.Lex.rel h)
  · rw [decide_eq_false h]
    refine decide_eq_false fun z => ?_
    cases z with
    | rel q => exact h q
    | cons q => cases q
/-- a text of the document: not too long, of letters -/
def isTxt (z : Str) : Bool := decide (z.length ≤ 40) && z.cps.toList.all okc
/-- a house of the document, behind a number -/
def chk (before : Int) : List (Int × Str) → Bool
  | [] => true
  | q :: r => decide (before < q.1) && decide (q.1 ≤ 99) && isTxt q.2 && chk q.1 r
def isH (h : List (Int × Str)) : Bool := decide (h.length ≤ 8) && chk (-1) h
theorem chk_of {m : Nat} (hm : m ≤ 40) : ∀ (h : List (Int × Str)) (b : Int), (∀ q ∈ h, b < q.1) → IsHs m h → chk b h = true
  | [], _, _, _ => rfl
  | q :: r, b, hb, a => by
    have t := a.txt q (List.mem_cons_self ..)
    have n := a.num q (List.mem_cons_self ..)
    have asc := a.asc
    rw [List.map_cons, List.pairwise_cons] at asc
    have ih := chk_of hm r q.1 (fun x hx => asc.1 x.1 (List.mem_map_of_mem hx)) ⟨asc.2, fun x hx => a.num x (List.mem_cons_of_mem _ hx), fun x hx => a.txt x (List.mem_cons_of_mem _ hx)⟩
    show (decide (b < q.1) && decide (q.1 ≤ 99) && isTxt q.2 && chk q.1 r) = true
    have e1 := hb q (List.mem_cons_self ..)
    have e2 : isTxt q.2 = true := by
      unfold isTxt
      rw [decide_eq_true (Nat.le_trans t.2 hm)]
      exact t.1
    rw [ih, e2, decide_eq_true e1, decide_eq_true n.2]
    rfl
end SH
set_option Elab.async false
set_option linter.all false
set_option maxRecDepth 100000
set_option maxHeartbeats 4000000
/-! sorted(xs), xs a list of pairs of a number and a text; pairs with one number have one text -/
namespace SH
open PySem PySem.Spec PyProof.Rows L2
def NT (h : Heap) (v : Value) (p : Int × Str) : Prop := ∃ (a : Addr) (o : Obj) (t u : Tok) (c : Nat), v = .ref a ∧ h.get? a = some o ∧ o.cls = .type "tuple" ∧ o.data = .seq #[.int p.1 t, .str p.2 u] c
theorem NT.on {h h' : Heap} {v : Value} {p : Int × Str} (x : NT h v p) (k : ∀ b o, h.get? b = some o → o.cls = .type "tuple" → h'.get? b = some o) : NT h' v p := by
  obtain ⟨a, o, t, u, c, rfl, g, q, r⟩ := x
  exact ⟨a, o, t, u, c, rfl, k a o g q, q, r⟩
theorem nt_firsts {h : Heap} {k : Value → Int × Str} : ∀ (vs : List Value), (∀ v ∈ vs, NT h v (k v)) → ∃ fs, PySem.W.KatTups h vs fs ∧ fs.length = vs.length ∧ ∀ f ∈ fs, ∃ n t, f = Value.int n t
  | [], _ => ⟨[], PySem.W.KatTups.nil, rfl, fun _ m => nomatch m⟩
  | v :: r, x => by
    obtain ⟨fs, k1, k2, k3⟩ := nt_firsts r (fun u m => x u (List.mem_cons_of_mem _ m))
    obtain ⟨a, o, t, u, c, rfl, g, q, d⟩ := x v (List.mem_cons_self ..)
    refine ⟨_, PySem.W.KatTups.cons g q d rfl k1, by simp [k2], fun f m => ?_⟩
    rcases List.mem_cons.mp m with e | m
    · exact ⟨_, _, e⟩
    · exact k3 f m
def ltN (k : Value → Int × Str) (v u : Value) : Bool := decide ((k v).1 < (k u).1)
theorem ltN_swo (k : Value → Int × Str) : SrtO.Swo (ltN k) :=
  ⟨fun x y h => decide_eq_false (by have := of_decide_eq_true h; omega), fun x y z h1 h2 => decide_eq_false (by have a := of_decide_eq_false h1; have b := of_decide_eq_false h2; omega)⟩
section
variable {prog : Program} {w : World} {A : Around} {s : Shared}
theorem nt_cmp {vs : List Value} {k : Value → Int × Str} (hp : ∀ v ∈ vs, NT s.heap v (k v)) (one : ∀ v ∈ vs, ∀ u ∈ vs, (k v).1 = (k u).1 → (k v).2 = (k u).2) :
    SrtO.Cmp prog w A s (tuples' true) (fun p => p.1 ∈ vs) (SrtO.lt2 (ltN k)) := by
  rintro ⟨x, kx⟩ ⟨y, ky⟩ mp mq
  have same := one _ mp _ mq
  show wpAny (model prog w) A (keyLt' (tuples' true) x y) (fun r s' => s' = s ∧ r = decide ((k x).1 < (k y).1)) (fun _ _ => False) s
  obtain ⟨a, o, t, u, c, e, g, cl, d⟩ := hp _ mp
  obtain ⟨a', o', t', u', c', e', g', cl', d'⟩ := hp _ mq
  have ex : x = .ref a := e
  have ey : y = .ref a' := e'
  subst ex ey
  refine PySem.W.kat_lt g d g' d' (PySem.W.kat_cons (SeqAt.EqAt.int_int _ t _ t' prog w _ _ (PySem.W.kat_go (fun e1 => ?_) (fun e1 => ?_))))
  · have en : (k (.ref a)).1 = (k (.ref a')).1 := by simpa using e1
    have ez := same en
    refine PySem.W.kat_yes (PySem.W.kat_cons (SeqAt.EqAt.str_str _ u _ u' prog w _ _ (PySem.W.kat_go (fun _ => ?_) (fun e2 => ?_))))
    · refine PySem.W.kat_yes (PySem.W.kat_nil ⟨rfl, ?_⟩)
      rw [en]
      simp
    · rw [ez] at e2
      simp at e2
  · exact PySem.W.kat_no (oneLt_int ⟨rfl, rfl⟩)
theorem nt_sortable {a : Addr} {vs : List Value} {k : Value → Int × Str} (h0 : 0 < vs.length) (hp : ∀ v ∈ vs, NT s.heap v (k v)) (one : ∀ v ∈ vs, ∀ u ∈ vs, (k v).1 = (k u).1 → (k v).2 = (k u).2)
    (ha : ∀ o, s.heap.get? a = some o → o.cls ≠ .type "tuple") : SrtO.SortableO prog w A s a vs (ltN k) := by
  intro h' keep
  have hp' : ∀ v ∈ vs, NT h' v (k v) := fun v m => (hp v m).on fun b o g c => keep b o (fun z => ha o (z ▸ g) c) g
  obtain ⟨fs, f1, f2, f3⟩ := nt_firsts vs hp'
  refine ⟨tuples' true, fun Q E q => PySem.W.kat_kind (T := .type "int") f1 (by omega) (fun f m => ?_) (by rfl) ?_, nt_cmp hp' one⟩
  · obtain ⟨n, t, rfl⟩ := f3 f m
    exact PySem.W.Looks.now
  · have e : (Value.type "int" != Value.type "tuple") = true := by first | decide +kernel | rfl
    rw [e]
    exact q
end
/-- sorted(xs): a new list of the same pairs, by their numbers -/
def rSortNT (K : PySem.W.Frag) : List V → Hp → VK → Prop := fun vs H Q => ∃ (a : Addr) (L : PL), vs = [.ref a] ∧ HsAt K H a L ∧ (∀ q ∈ L, ∀ r ∈ L, q.2.1 = r.2.1 → q.2.2 = r.2.2) ∧
  ∀ (L' : PL) (p : Addr), L'.Perm L → L'.Pairwise (fun q r => q.2.1 ≤ r.2.1) → H p = none → Q (.ref p) (upd H p (.lst (refs L')))
/-- what stands at the address in a list of pairs -/
def atAddr (L : PL) (v : Value) : Int × Str := match v with
  | .ref a => match L.find? (fun q => q.1 == a) with
    | some q => q.2
    | none => (0, "")
  | _ => (0, "")
def addrOf : Value → Addr
  | .ref a => a
  | _ => 0
theorem atAddr_of {L : PL} (un : ∀ q ∈ L, ∀ r ∈ L, q.1 = r.1 → q.2 = r.2) {q : Addr × Int × Str} (hq : q ∈ L) : atAddr L (.ref q.1) = q.2 := by
  show (match L.find? (fun r => r.1 == q.1) with | some r => r.2 | none => (0, "")) = q.2
  cases e : L.find? (fun r => r.1 == q.1) with
  | some r =>
    have h1 := List.mem_of_find?_eq_some e
    have h2 := List.find?_some e
    exact un r h1 q hq (by simpa using h2)
  | none =>
    have := List.find?_eq_none.mp e q hq
    simp at this
section
variable {X : Cx}
theorem cr_sortNT : CallR X (.builtin "sorted") (rSortNT X.K) := by
  intro pins s τ H vs us Q I r h
  obtain ⟨a, L, rfl, hA, one, q⟩ := h
  obtain ⟨its, rv, hl, hz⟩ := I.list hA.1
  obtain ⟨u, rfl, ru⟩ := vals1 r
  obtain rfl : u = Value.ref a := ru
  obtain ⟨e1, e2⟩ := refs_back rv (fun x m => by
    obtain ⟨q, _, e⟩ := List.mem_map.mp m
    exact ⟨q.1, e.symm⟩)
  -- one address, one pair
  have un : ∀ q ∈ L, ∀ r ∈ L, q.1 = r.1 → q.2 = r.2 := fun q hq r hr e => by
    have z := I.tuple_inj (hA.2 q hq) (by rw [e]; exact hA.2 r hr)
    obtain ⟨x, n, t⟩ := q
    obtain ⟨y, m, t'⟩ := r
    simp at z
    show (n, t) = (m, t')
    rw [z.1, z.2]
  have mem : ∀ v ∈ its, ∃ q ∈ L, v = Value.ref q.1 := fun v hv => by
    obtain ⟨t, rfl⟩ := e2 v hv
    have m : V.ref t ∈ refs L := by
      rw [e1]
      exact List.mem_map.mpr ⟨_, hv, rfl⟩
    obtain ⟨q, hq, e⟩ := List.mem_map.mp m
    cases e
    exact ⟨q, hq, rfl⟩
  have nt : ∀ v ∈ its, NT s.heap v (atAddr L v) := fun v hv => by
    obtain ⟨q, hq, rfl⟩ := mem v hv
    rw [atAddr_of un hq]
    obtain ⟨i2, r2, ⟨o, g, c, n, d⟩, _⟩ := I.tuple (hA.2 q hq)
    obtain ⟨u1, u2, rfl, ⟨t1, rfl⟩, ⟨t2, rfl⟩⟩ := vals2 r2
    exact ⟨q.1, o, t1, t2, n, rfl, g, c, d⟩
  have one' : ∀ v ∈ its, ∀ u ∈ its, (atAddr L v).1 = (atAddr L u).1 → (atAddr L v).2 = (atAddr L u).2 := fun v hv u hu => by
    obtain ⟨q, hq, rfl⟩ := mem v hv
    obtain ⟨r, hr, rfl⟩ := mem u hu
    rw [atAddr_of un hq, atAddr_of un hr]
    exact one q hq r hr
  refine SrtO.sorted_ord (ltN_swo (atAddr L)) hl.isList (by rw [← rv.length]; exact hz) (fun h2 h₁ b hb kk => ?_) (fun out hs hb => ?_)
  · refine nt_sortable (s := { s with heap := h₁ }) (by omega) (fun v m => (nt v m).on fun c o g _ => (kk c o g).2) one' (fun o g c => ?_)
    have g' : some o = some (seqObj "list" its.toArray 0) := g.symm.trans hb
    cases g'
    exact absurd (Value.type.inj c) (by decide)
  · have mo : ∀ v ∈ out, ∃ q ∈ L, v = Value.ref q.1 := fun v hv => mem v (hb.perm.mem_iff.mp hv)
    -- the pairs in their new order
    let f : Value → Addr × Int × Str := fun v => (addrOf v, atAddr L v)
    have fq : ∀ q ∈ L, f (.ref q.1) = q := fun q hq => by
      show (q.1, atAddr L (.ref q.1)) = q
      rw [atAddr_of un hq]
    have hL : its.map f = L := by
      have z : (refs L).map (fun v => match v with | .ref t => f (.ref t) | _ => (0, 0, "")) = L := by
        unfold refs
        rw [List.map_map]
        calc L.map _ = L.map id := List.map_congr_left fun q hq => fq q hq
          _ = L := List.map_id L
      rw [e1, List.map_map] at z
      refine Eq.trans (List.map_congr_left fun v hv => ?_) z
      obtain ⟨q, _, rfl⟩ := mem v hv
      rfl
    have hp : (out.map f).Perm L := by
      rw [← hL]
      exact hb.perm.map f
    have hr : refs (out.map f) = out.map backV := by
      unfold refs
      rw [List.map_map]
      refine List.map_congr_left fun v hv => ?_
      obtain ⟨q, _, rfl⟩ := mo v hv
      rfl
    have hsrt : (out.map f).Pairwise (fun q r => q.2.1 ≤ r.2.1) := by
      rw [List.pairwise_map]
      refine List.Pairwise.imp (fun {x y} h => ?_) hs
      have := of_decide_eq_false h
      show (atAddr L x).1 ≤ (atAddr L y).1
      omega
    obtain ⟨n, hn⟩ := sortedAll_at s.heap its out.toArray
    have hd : s.heap.objs.size ≤ s.heap.objs.size + 1 := Nat.le_succ _
    refine ⟨.ref (s.heap.objs.size + 1), upd H (s.heap.objs.size + 1) (.lst (refs (out.map f))), I.laid (t' := s.toks) (fun b o g => sortedAll_old g) hd ⟨?_, out, n, ?_, hn⟩, rfl, q _ _ hp hsrt (I.hok.fresh hd)⟩
    · have e3 : (refs (out.map f)).length = (refs L).length := by
        unfold refs
        rw [List.length_map, List.length_map (as := L), hp.length_eq]
      rw [e3]
      exact hz
    · rw [hr]
      exact vals_back fun v hv => by
        obtain ⟨q, _, rfl⟩ := mo v hv
        exact ⟨q.1, rfl⟩
end
end SH
set_option Elab.async false
set_option linter.all false
set_option maxRecDepth 100000
set_option maxHeartbeats 4000000
/-! houses as data, compared -/
namespace SH
open PySem PySem.Spec PyProof.Rows L2
def dPair (q : Int × Str) : PyData := .tuple [.int q.1, .str q.2]
def dH (h : List (Int × Str)) : PyData := .list (h.map dPair)
theorem dp_refs {K : PySem.W.Frag} {H : Hp} : ∀ (L : PL), PairsAt K H L → DpAll K H (refs L) (L.map fun q => dPair q.2)
  | [], _ => .nil
  | q :: r, h => .cons (.tup (h q (List.mem_cons_self ..)) (.cons (.int _) (.cons (.str _) .nil))) (dp_refs r fun x m => h x (List.mem_cons_of_mem _ m))
theorem dp_house {K : PySem.W.Frag} {H : Hp} {a : Addr} {L : PL} (h : HsAt K H a L) : Dp K H (.ref a) (dH (L.map (·.2))) := by
  refine .lst h.1 ?_
  rw [List.map_map]
  exact dp_refs L h.2
theorem okc_lt {c : Nat} (h : okc c = true) : c < 127 := by
  unfold okc at h
  simp at h
  omega
theorem let_ok {z : Str} (h : IsLet z) : PyData.strOk z = true := by
  unfold PyData.strOk
  rw [← Array.all_toList]
  refine List.all_eq_true.mpr fun c hc => ?_
  have := okc_lt (List.all_eq_true.mp h c hc)
  exact decide_eq_true (by omega)
def LetAll (h : List (Int × Str)) : Prop := ∀ q ∈ h, IsLet q.2
theorem dH_lay : ∀ {h : List (Int × Str)}, LetAll h → PyData.canLayAll0 (h.map dPair) = true
  | [], _ => rfl
  | q :: r, a => by
    rw [List.map_cons, PyData.canLayAll0, dH_lay fun x m => a x (List.mem_cons_of_mem _ m)]
    simp [dPair, PyData.canLay0, PyData.canLayAll0, let_ok (a q (List.mem_cons_self ..))]
theorem dH_deep : ∀ (h : List (Int × Str)), PyData.depthAll (h.map dPair) ≤ 1
  | [] => Nat.zero_le _
  | q :: r => by
    rw [List.map_cons, PyData.depthAll]
    have := dH_deep r
    have e : PyData.depth (dPair q) = 1 := rfl
    rw [e]
    omega
theorem dH_shaped {h : List (Int × Str)} (a : LetAll h) : SeqAt.shaped (dH h) = true := by
  unfold SeqAt.shaped
  have e1 : (dH h).canLay0 = true := dH_lay a
  have e2 : (dH h).depth ≤ 64 := by
    show PyData.depthAll (h.map dPair) + 1 ≤ 64
    have := dH_deep h
    omega
  rw [e1, decide_eq_true e2]
  rfl
theorem dH_refl {h : List (Int × Str)} (a : LetAll h) : PyData.eqv (dH h) (dH h) = true := SeqAt.eqv_refl _ (show (dH h).canLay0 = true from dH_lay a)
/-- what is told or due: a tag and a thing -/
def dT (p : Str × PyData) : PyData := .tuple [.str p.1, p.2]
theorem dT_shaped {p : Str × PyData} (h1 : PyData.strOk p.1 = true) (h2 : p.2.canLay0 = true) (h3 : p.2.depth ≤ 60) : SeqAt.shaped (dT p) = true ∧ PyData.eqv (dT p) (dT p) = true := by
  have e1 : (dT p).canLay0 = true := by
    show (PyData.strOk p.1 && (p.2.canLay0 && true)) = true
    rw [h1, h2]
    rfl
  have e2 : (dT p).depth ≤ 64 := by
    show max 0 (max p.2.depth 0) + 1 ≤ 64
    omega
  refine ⟨?_, SeqAt.eqv_refl _ e1⟩
  unfold SeqAt.shaped
  rw [e1, decide_eq_true e2]
  rfl
theorem dH_depth (h : List (Int × Str)) : (dH h).depth ≤ 60 := by
  show PyData.depthAll (h.map dPair) + 1 ≤ 60
  have := dH_deep h
  omega
theorem isTxt_let {z : Str} (h : isTxt z = true) : IsLet z := by
  unfold isTxt at h
  exact (Bool.and_eq_true_iff.mp h).2
theorem IsHs.letAll {m : Nat} {h : List (Int × Str)} (a : IsHs m h) : LetAll h := fun q hq => (a.txt q hq).1
theorem LetAll.filter {h : List (Int × Str)} (a : LetAll h) (p : Int × Str → Bool) : LetAll (h.filter p) := fun q hq => a q (List.mem_filter.mp hq).1
theorem LetAll.app {h k : List (Int × Str)} (a : LetAll h) (b : LetAll k) : LetAll (h ++ k) := fun q hq => (List.mem_append.mp hq).elim (a q) (b q)
theorem letAll_ins {n : Int} {z : Str} {h : List (Int × Str)} (a : LetAll h) (b : IsLet z) : LetAll (h.filter (fun q => decide (q.1 < n)) ++ [(n, z)] ++ h.filter (fun q => decide (n < q.1))) :=
  ((a.filter _).app fun q hq => by rw [List.mem_singleton.mp hq]; exact b).app (a.filter _)
/-! a house that is none -/
theorem chk_true : ∀ {h : List (Int × Str)} {b : Int}, chk b h = true → (h.map (·.1)).Pairwise (· < ·) ∧ (∀ q ∈ h, b < q.1 ∧ q.1 ≤ 99 ∧ isTxt q.2 = true)
  | [], _, _ => ⟨List.Pairwise.nil, fun q hq => nomatch hq⟩
  | q :: r, b, h => by
    have h' : (decide (b < q.1) && decide (q.1 ≤ 99) && isTxt q.2 && chk q.1 r) = true := h
    simp only [Bool.and_eq_true, decide_eq_true_eq] at h'
    obtain ⟨⟨⟨h1, h2⟩, h3⟩, h4⟩ := h'
    obtain ⟨i1, i2⟩ := chk_true h4
    refine ⟨?_, fun x hx => ?_⟩
    · rw [List.map_cons, List.pairwise_cons]
      refine ⟨fun y hy => ?_, i1⟩
      obtain ⟨z, hz, rfl⟩ := List.mem_map.mp hy
      exact (i2 z hz).1
    · rcases List.mem_cons.mp hx with e | m
      · rw [e]; exact ⟨h1, h2, h3⟩
      · have := i2 x m
        exact ⟨by omega, this.2⟩
theorem isH_false {h : List (Int × Str)} (no : ¬ (h.length ≤ 8 ∧ (h.map (·.1)).Pairwise (· < ·) ∧ ∀ q ∈ h, -1 < q.1 ∧ q.1 ≤ 99 ∧ isTxt q.2 = true)) : isH h = false := by
  cases e : isH h with
  | false => rfl
  | true =>
    unfold isH at e
    obtain ⟨e1, e2⟩ := Bool.and_eq_true_iff.mp e
    exact absurd ⟨of_decide_eq_true e1, chk_true e2⟩ no
/-! ### a house filtered, pair by pair -/
theorem refs_get {L : PL} {i : Nat} {x : V} (h : (refs L)[i]? = some x) : ∃ t, L[i]? = some t ∧ t ∈ L ∧ x = .ref t.1 := by
  unfold refs at h
  rw [List.getElem?_map] at h
  cases e : L[i]? with
  | none => rw [e] at h; cases h
  | some t =>
    rw [e] at h
    cases h
    exact ⟨t, rfl, List.mem_of_getElem? e, rfl⟩
theorem lc_filter {K : PySem.W.Frag} {a : Addr} {L : PL} {g : TG} {tt : TT} {te : TE} {vs : List Nat} {τ : L2.St} {H1 : Hp} {D : Addr} {Qd : Hp → Prop} (hD : H1 D = none) (hA : HsAt K H1 a L) (hl : L.length ≤ 1000) (p : Addr × Int × Str → Bool)
    (hs : ∀ (q : Addr × Int × Str) (H' : Hp) (Qn : VK) (Qf : Hp → Prop), q ∈ L → Same H1 H' → (p q = true → Qn (.ref q.1) H') → (p q = false → Qf H') →
      g (.ref q.1) (wipe τ vs) H' fun τ2 H2 => wipe τ2 vs = wipe τ vs ∧ tt τ2 H2 fun b H3 => if b = true then te τ2 H3 Qn else Qf H3)
    (hd : ∀ H, Same H1 H → H D = some (.lst (refs (L.filter p))) → Qd H) :
    ∃ W : Nat → Nat → Hp → Prop, (∃ m, W 0 m (upd H1 D (.lst []))) ∧ ∀ i m H, W i m H →
      ((Itl K a).stop i H ∧ Qd H) ∨ ((Itl K a).go i H ∧ ∃ Nx : Hp → Prop, (∀ H', Nx H' → ∃ m', m' < m ∧ W (i + 1) m' H') ∧ ∀ x H', (Itl K a).yld i H x H' → g x (wipe τ vs) H' fun τ2 H2 => wipe τ2 vs = wipe τ vs ∧ tt τ2 H2 fun b H3 =>
        if b = true then te τ2 H3 fun y H4 => ∃ acc, H4 D = some (.lst acc) ∧ acc.length < sizeLine ∧ Nx (upd H4 D (.lst (acc ++ [y]))) else Nx H3) := by
  have rl : (refs L).length = L.length := List.length_map ..
  refine lc_w (walk_list (xs := refs L)) hD (by omega) (fun H' e => e.seq hA.1) (fun i acc _ => acc = refs ((L.take i).filter p)) (fun _ _ => rfl) (fun _ _ _ _ _ _ _ r => r) (fun i H x H' y => by rw [y.1]; exact Same.refl _)
    (fun i x acc H2 H3 Qn Qf hi sm y r at_ kn kf => ?_) (fun acc H2 sm at_ _ r => ?_)
  · obtain ⟨rfl, hx⟩ := y
    obtain ⟨t, ht, tm, rfl⟩ := refs_get hx
    refine hs t _ Qn Qf tm sm (fun e => kn _ _ (Same.refl _) ?_) (fun e => kf _ (Same.refl _) ?_)
    · rw [r, List.take_add_one, ht, List.filter_append]
      show _ = refs (_ ++ [t].filter p)
      rw [List.filter_cons_of_pos e]
      unfold refs
      rw [List.map_append]
      rfl
    · rw [r, List.take_add_one, ht, List.filter_append]
      show _ = refs (_ ++ [t].filter p)
      rw [List.filter_cons_of_neg (by rw [e]; decide), List.filter_nil, List.append_nil]
  · refine hd H2 sm ?_
    rw [at_, r, List.take_of_length_le (by omega)]
theorem HsAt.filter {K : PySem.W.Frag} {H : Hp} {L : PL} (h : PairsAt K H L) (p : Addr × Int × Str → Bool) : PairsAt K H (L.filter p) := fun q hq => h q (List.mem_filter.mp hq).1
theorem map_filter (L : PL) (p : Int × Str → Bool) : (L.filter fun q => p q.2).map (·.2) = (L.map (·.2)).filter p := by
  rw [List.filter_map]
  rfl
mutual
theorem dp_same {K : PySem.W.Frag} {H H' : Hp} (e : Same H H') : ∀ {d : PyData} {v : V}, Dp K H v d → Dp K H' v d
  | .none, _, h => by cases h; exact .non
  | .bool _, _, h => by cases h; exact .bl _
  | .int _, _, h => by cases h; exact .int _
  | .str _, _, h => by cases h; exact .str _
  | .list ds, _, h => by
    cases h with
    | lst s a => exact .lst (e.seq s) (dp_all_same e a)
  | .tuple ds, _, h => by
    cases h with
    | tup s a => exact .tup (same_tup e s) (dp_all_same e a)
  | .dict _, _, h => by cases h
theorem dp_all_same {K : PySem.W.Frag} {H H' : Hp} (e : Same H H') : ∀ {ds : List PyData} {vs : List V}, DpAll K H vs ds → DpAll K H' vs ds
  | [], _, h => by cases h; exact .nil
  | d :: ds, _, h => by
    cases h with
    | cons a b => exact .cons (dp_same e a) (dp_all_same e b)
end
/-! ### slices, texts of one letter joined -/
theorem cut_to (xs : List V) (k : Nat) : cutV xs none (some (k : Int)) = xs.take k := by
  unfold cutV
  rw [HT.sIx_none, HT.sIx_nat, List.drop_zero, Nat.sub_zero]
  rcases Nat.le_total k xs.length with h | h
  · rw [Nat.min_eq_left h]
  · rw [Nat.min_eq_right h, List.take_length, List.take_of_length_le h]
theorem joinL_len : ∀ (n c : Nat), (TL.joinL [] (List.replicate n [c])).length = n
  | 0, _ => rfl
  | 1, _ => rfl
  | n + 2, c => by
    show ([c] ++ ([] ++ TL.joinL [] (List.replicate (n + 1) [c]))).length = n + 2
    rw [List.nil_append, List.length_append, joinL_len (n + 1) c]
    show 1 + (n + 1) = n + 2
    omega
theorem join_len {n c : Nat} : (Txt.join "" (List.replicate n (⟨#[c]⟩ : Str))).length = n := by
  have e : (Txt.join "" (List.replicate n (⟨#[c]⟩ : Str))).cps.toList = TL.joinL [] (List.replicate n [c]) := by
    rw [TL.join_eq]
    refine (TL.tl_join "" _).trans ?_
    rw [List.map_replicate]
    rfl
  have e2 := congrArg List.length e
  rw [joinL_len] at e2
  exact e2
theorem joinL_mem {x : Nat} : ∀ (n c : Nat), x ∈ TL.joinL [] (List.replicate n [c]) → x = c
  | 0, _, h => by cases h
  | 1, _, h => by simpa [TL.joinL] using h
  | n + 2, c, h => by
    have h' : x ∈ [c] ++ ([] ++ TL.joinL [] (List.replicate (n + 1) [c])) := h
    rw [List.nil_append] at h'
    rcases List.mem_append.mp h' with m | m
    · exact List.mem_singleton.mp m
    · exact joinL_mem (n + 1) c m
theorem join_mem {n c x : Nat} (h : x ∈ (Txt.join "" (List.replicate n (⟨#[c]⟩ : Str))).cps.toList) : x = c := by
  have e : (Txt.join "" (List.replicate n (⟨#[c]⟩ : Str))).cps.toList = TL.joinL [] (List.replicate n [c]) := by
    rw [TL.join_eq]
    refine (TL.tl_join "" _).trans ?_
    rw [List.map_replicate]
    rfl
  rw [e] at h
  exact joinL_mem n c h
theorem isTxt_long {z : Str} (h : 40 < z.length) : isTxt z = false := by
  unfold isTxt
  rw [decide_eq_false (by omega)]
  rfl
theorem isTxt_line {z : Str} (h : 10 ∈ z.cps.toList) : isTxt z = false := by
  unfold isTxt
  have : z.cps.toList.all okc = false := by
    cases e : z.cps.toList.all okc with
    | false => rfl
    | true => exact absurd (List.all_eq_true.mp e 10 h) (by decide)
  rw [this, Bool.and_false]
end SH
set_option Elab.async false
set_option linter.all false
set_option maxRecDepth 100000
set_option maxHeartbeats 4000000
/-! own classes: their methods, a new instance -/
namespace SH
open PySem PySem.Spec PyProof.Rows L2
/-- a method as it stands -/
structure DdM (K : PySem.W.Frag) (C : Addr) (m qual : Str) (st : Stmt) (ps : List Str) : Prop where
  ex : ∃ (f : Addr) (fd : FuncData), Fun K m qual st f fd ∧ Meth K C m f ∧ Binds K fd ps []
structure DdMk (K : PySem.W.Frag) (C : Addr) (m qual : Str) (st : Stmt) (ps : List Str) : Prop where
  ex : ∃ (f : Addr) (fd : FuncData), Fun K m qual st f fd ∧ Mk K C f ∧ Binds K fd ps []
/-- e.f, the frame said -/
theorem pe_fldK {X : Cx} {K : PySem.W.Frag} {e : Expr} {f : Str} {pos : Pos} {ta : TE} (he : PE X e ta) (hb : attributeBase e f X.env (eval e X.env) = eval e X.env) (h : X.K = K := by rfl) : PE X (.Attribute e f pos) (tFld K ta f) := h ▸ pe_fld he hb
theorem cr_sortedPOK {X : Cx} {K : PySem.W.Frag} (h : X.K = K := by rfl) : CallR X (.builtin "sorted") (rSortedPO K) := h ▸ cr_sortedPO
theorem pi_listK {X : Cx} {K : PySem.W.Frag} {tg e : Expr} {te : TE} (he : PE X e te) (h : X.K = K := by rfl) : PI X tg e (iList K te) := h ▸ pi_list he
section
variable {P : Program} {w : World} {K : PySem.W.Frag} {mg : Str → Option Value} {base : Heap}
theorem met_of {C : Addr} {m qual : Str} {st : Stmt} {ps N : List Str} {k : Nat} {sp : Sp} (D : DdM K C m qual st ps) (c : Cls K C) (S : FnScope N ps (defScope st)) (len : ∀ vs H Q E, sp vs H Q E → vs.length = ps.length)
    (hbody : ∀ (f : Addr) (cdv : Value) (A : Around) (outer : List Env) (s : Shared) (H : Hp) (vs : List V) (Q : VK) (E : XK), Room k (A.deeper (envOfC qual (defScope st) s.heap.objs.size f cdv)) → sp vs H Q E →
      ∃ t, PSs (cxOf CX0 P w K mg base N qual (defScope st) f cdv A outer s H E).nox (defBody st) t ∧ t { nx := fun _ H' => Q .non H', rt := Q } (start N vs) H) : C8.Met P w K mg base (k + 1) C m sp [] := by
  obtain ⟨f, fd, F, me, b⟩ := D.ex
  exact ⟨f, fd, ps, [], c, me, F.ok S len (fun cdv A outer s H vs Q E hr h => hbody f cdv A outer s H vs Q E hr h), b, .nil⟩
theorem mak_of {x : Str} {C : Addr} {m qual : Str} {st : Stmt} {ps N : List Str} {k : Nat} {sp : Sp} (D : DdMk K C m qual st ps) (hm : mg x = some (.ref C)) (S : FnScope N ps (defScope st)) (len : ∀ vs H Q E, sp vs H Q E → vs.length = ps.length)
    (hbody : ∀ (f : Addr) (cdv : Value) (A : Around) (outer : List Env) (s : Shared) (H : Hp) (vs : List V) (Q : VK) (E : XK), Room k (A.deeper (envOfC qual (defScope st) s.heap.objs.size f cdv)) → sp vs H Q E →
      ∃ t, PSs (cxOf CX0 P w K mg base N qual (defScope st) f cdv A outer s H E).nox (defBody st) t ∧ t { nx := fun _ H' => Q .non H', rt := Q } (start N vs) H) : C8.Mak P w K mg base (k + 1) x C sp [] := by
  obtain ⟨f, fd, F, me, b⟩ := D.ex
  exact ⟨f, fd, ps, [], me, F.ok S len (fun cdv A outer s H vs Q E hr h => hbody f cdv A outer s H vs Q E hr h), hm, b, .nil⟩
end
end SH
set_option Elab.async false
set_option linter.all false
set_option maxRecDepth 100000
set_option maxHeartbeats 4000000
/-! sorted(xs) of any data; triples of a text, a number and a start -/
namespace SH
open PySem PySem.Spec PyProof.Rows L2
section
variable {α : Type}
theorem each_of_vals : ∀ {Z : List (V × α)} {its : List Value}, Vals (Z.map (·.1)) its → PySem.W.EachIs (fun v z => RelV z.1 v) its Z
  | [], _, .nil => .nil
  | _ :: _, _, .cons r t => .cons r (each_of_vals t)
theorem vals_of_each : ∀ {Z : List (V × α)} {its : List Value}, PySem.W.EachIs (fun v z => RelV z.1 v) its Z → Vals (Z.map (·.1)) its
  | _, _, .nil => .nil
  | _, _, .cons r t => .cons r (vals_of_each t)
end
/-- sorted(xs): a new list of the same things, by what they read as -/
def rSortD (K : PySem.W.Frag) : List V → Hp → VK → Prop := fun vs H Q => ∃ (α : Type) (enc : α → PyData) (a : Addr) (Z : List (V × α)), vs = [.ref a] ∧ SqL K H a (Z.map (·.1)) ∧ (∀ z ∈ Z, Dp K H z.1 (enc z.2)) ∧
  PySem.W.AllAlike (Z.map fun z => enc z.2) ∧ PySem.W.Sortable (Z.map fun z => enc z.2) ∧ (∀ z ∈ Z, (enc z.2).depth ≤ 60) ∧
  ∀ p : Addr, H p = none → Q (.ref p) (upd H p (.lst ((Z.mergeSort (PySem.W.dataLe false fun z => enc z.2)).map (·.1))))
section
variable {X : Cx}
theorem cr_sortD (hu : X.A.units + 64 < cLine) : CallR X (.builtin "sorted") (rSortD X.K) := by
  intro pins s τ H vs us Q I r h
  obtain ⟨α, enc, a, Z, rfl, hA, hd, hal, hk, hdp, q⟩ := h
  obtain ⟨its, rv, hl, hz⟩ := I.list hA
  obtain ⟨u, rfl, ru⟩ := vals1 r
  obtain rfl : u = Value.ref a := ru
  rw [List.length_map] at hz
  have e := each_of_vals rv
  have er : PySem.W.EachIs (fun v z => ∃ as, Reads s.heap v (enc z.2) as) its Z := (PySem.W.each_mem e).mono fun v z h => Dp.reads I (enc z.2) z.1 v (hd z h.2) h.1
  refine PySem.W.sorted_data (enc := fun z : V × α => enc z.2) hl.isList e er hal hk hz (fun z hm => ?_) (fun out ho eo => ?_)
  · have := hdp z hm
    omega
  · obtain ⟨n, hn⟩ := sortedAll_at s.heap its out.toArray
    have hs : s.heap.objs.size ≤ s.heap.objs.size + 1 := Nat.le_succ _
    refine ⟨.ref (s.heap.objs.size + 1), upd H (s.heap.objs.size + 1) (.lst ((Z.mergeSort (PySem.W.dataLe false fun z => enc z.2)).map (·.1))), I.laid (t' := s.toks) (fun b o g => sortedAll_old g) hs ⟨?_, out, n, vals_of_each eo, hn⟩, rfl, q _ (I.hok.fresh hs)⟩
    rw [List.length_map, List.length_mergeSort]
    exact hz
theorem cr_sortDK {K : PySem.W.Frag} (hu : X.A.units + 64 < cLine) (h : X.K = K := by rfl) : CallR X (.builtin "sorted") (rSortD K) := h ▸ cr_sortD hu
end
/-! ### triples: a text, a number, a start -/
abbrev E3 := Str × Int × Int
def lex3 (p q : E3) : Prop := p.1.cps.toList < q.1.cps.toList ∨ (p.1 = q.1 ∧ (p.2.1 < q.2.1 ∨ (p.2.1 = q.2.1 ∧ p.2.2 < q.2.2)))
instance (p q : E3) : Decidable (lex3 p q) := inferInstanceAs (Decidable (_ ∨ _))
def le3 (p q : E3) : Bool := !decide (lex3 q p)
def eFlat (p : E3) : PyData := .tuple [.str p.1, .int p.2.1, .int p.2.2]
def eNest (p : E3) : PyData := .tuple [.str p.1, .tuple [.int p.2.1, .int p.2.2]]
theorem str_ext {x y : Str} (h : x.cps.toList = y.cps.toList) : x = y := by
  obtain ⟨a⟩ := x
  obtain ⟨b⟩ := y
  have : a = b := Array.toList_inj.mp h
  rw [this]
theorem lex3_irrefl (p : E3) : ¬ lex3 p p := by
  rintro (h | ⟨_, h | ⟨_, h⟩⟩)
  · exact List.lt_irrefl _ h
  · omega
  · omega
theorem lex3_tr {p q r : E3} (h : lex3 p q) (h2 : lex3 q r) : lex3 p r := by
  rcases h with h | ⟨e, h⟩ <;> rcases h2 with h2 | ⟨e2, h2⟩
  · exact .inl (List.lt_trans h h2)
  · exact .inl (e2 ▸ h)
  · exact .inl (by rw [e]; exact h2)
  · refine .inr ⟨e.trans e2, ?_⟩
    rcases h with h | ⟨f, h⟩ <;> rcases h2 with h2 | ⟨f2, h2⟩
    · exact .inl (by omega)
    · exact .inl (by omega)
    · exact .inl (by omega)
    · exact .inr ⟨by omega, by omega⟩
theorem lex3_tri {p q : E3} (h : ¬ lex3 p q) (h2 : ¬ lex3 q p) : p = q := by
  have a1 : p.1.cps.toList ≤ q.1.cps.toList := List.not_lt.mp fun z => h2 (.inl z)
  have a2 : q.1.cps.toList ≤ p.1.cps.toList := List.not_lt.mp fun z => h (.inl z)
  have a : p.1 = q.1 := str_ext (List.le_antisymm a1 a2)
  have b : p.2.1 = q.2.1 := by
    rcases Int.lt_trichotomy p.2.1 q.2.1 with z | z | z
    · exact absurd (.inr ⟨a, .inl z⟩) h
    · exact z
    · exact absurd (.inr ⟨a.symm, .inl z⟩) h2
  have c : p.2.2 = q.2.2 := by
    rcases Int.lt_trichotomy p.2.2 q.2.2 with z | z | z
    · exact absurd (.inr ⟨a, .inr ⟨b, z⟩⟩) h
    · exact z
    · exact absurd (.inr ⟨a.symm, .inr ⟨b.symm, z⟩⟩) h2
  obtain ⟨x, y, z⟩ := p
  obtain ⟨x', y', z'⟩ := q
  simp at a b c
  rw [a, b, c]
theorem le3_tr (p q r : E3) (h : le3 p q = true) (h2 : le3 q r = true) : le3 p r = true := by
  unfold le3 at *
  simp only [Bool.not_eq_true', decide_eq_false_iff_not] at *
  intro z
  by_cases c : lex3 p q
  · exact h2 (lex3_tr z c)
  · have := lex3_tri c h
    subst this
    exact h2 z
theorem le3_tot (p q : E3) : (le3 p q || le3 q p) = true := by
  unfold le3
  by_cases c : lex3 q p
  · have d : ¬ lex3 p q := fun z => lex3_irrefl _ (lex3_tr c z)
    rw [decide_eq_true c, decide_eq_false d]
    rfl
  · rw [decide_eq_false c]
    rfl
theorem eqv_str (x y : Str) : PyData.eqv (.str x) (.str y) = decide (x = y) := by
  by_cases h : x = y
  · simp [PyData.eqv, h]
  · simp [PyData.eqv, h]
theorem eqv_int (x y : Int) : PyData.eqv (.int x) (.int y) = decide (x = y) := by
  by_cases h : x = y
  · simp [PyData.eqv, h]
  · simp [PyData.eqv, h]
theorem flat_lt (p q : E3) : PySem.W.dataLt (eFlat p) (eFlat q) = decide (lex3 p q) := by
  unfold eFlat
  rw [PySem.W.dataLt_tuple, PySem.W.dataLt_cons (by simp [PySem.W.alike]), PySem.W.dataLt_cons (by simp [PySem.W.alike]), PySem.W.dataLt_cons (by simp [PySem.W.alike])]
  have e : PyProof.Rows.lexLt itemOrd (PySem.W.keyToksAll []) (PySem.W.keyToksAll []) = false := lex_irrefl _
  rw [e, eqv_str, eqv_int, eqv_int, PySem.W.dataLt_str, PySem.W.dataLt_int, PySem.W.dataLt_int]
  unfold lex3
  by_cases a : p.1 = q.1
  · have na : ¬ p.1.cps.toList < q.1.cps.toList := by rw [a]; exact List.lt_irrefl _
    by_cases b : p.2.1 = q.2.1
    · by_cases c : p.2.2 = q.2.2
      · simp [a, b, c]
      · rw [decide_eq_true a, decide_eq_true b, decide_eq_false c]
        show decide (p.2.2 < q.2.2) = _
        exact decide_eq_decide.mpr ⟨fun h => .inr ⟨a, .inr ⟨b, h⟩⟩, fun h => h.elim (fun h => absurd h na) fun h => h.2.elim (fun h => by omega) fun h => h.2⟩
    · rw [decide_eq_true a, decide_eq_false b]
      show decide (p.2.1 < q.2.1) = _
      exact decide_eq_decide.mpr ⟨fun h => .inr ⟨a, .inl h⟩, fun h => h.elim (fun h => absurd h na) fun h => h.2.elim id fun h => absurd h.1 b⟩
  · simp [a]
theorem nest_lt (p q : E3) : PySem.W.dataLt (eNest p) (eNest q) = decide (lex3 p q) := by
  unfold eNest
  rw [PySem.W.dataLt_pair (by simp [PySem.W.alike]) (by simp [PySem.W.alike, PySem.W.alikeAll]), PySem.W.dataLt_ii, PySem.W.dataLt_str, eqv_str]
  have e2 : PyData.eqv (.tuple [.int p.2.1, .int p.2.2]) (.tuple [.int q.2.1, .int q.2.2]) = decide (p.2 = q.2) := by
    obtain ⟨x, y, z⟩ := p
    obtain ⟨x', y', z'⟩ := q
    by_cases b : y = y' <;> by_cases c : z = z' <;> simp [PyData.eqv, PyData.eqvAll, b, c]
  rw [e2]
  unfold lex3
  by_cases a : p.1 = q.1
  · have na : ¬ p.1.cps.toList < q.1.cps.toList := by rw [a]; exact List.lt_irrefl _
    by_cases b : p.2 = q.2
    · simp [a, b]
    · rw [decide_eq_true a, decide_eq_false b]
      show decide (p.2.1 < q.2.1 ∨ (p.2.1 = q.2.1 ∧ p.2.2 < q.2.2)) = _
      exact decide_eq_decide.mpr ⟨fun h => .inr ⟨a, h⟩, fun h => h.elim (fun h => absurd h na) fun h => h.2⟩
  · simp [a]
theorem flat_le {β : Type} (f : β → E3) : PySem.W.dataLe false (fun b => eFlat (f b)) = fun p q => le3 (f p) (f q) := by
  funext p q
  show (!PySem.W.dataLt (eFlat (f q)) (eFlat (f p))) = _
  rw [flat_lt]
  rfl
theorem nest_le {β : Type} (f : β → E3) : PySem.W.dataLe false (fun b => eNest (f b)) = fun p q => le3 (f p) (f q) := by
  funext p q
  show (!PySem.W.dataLt (eNest (f q)) (eNest (f p))) = _
  rw [nest_lt]
  rfl
theorem flat_alike {β : Type} (f : β → E3) (bs : List β) : PySem.W.AllAlike (bs.map fun b => eFlat (f b)) := PySem.W.AllAlike.of fun b b' => by simp [eFlat, PySem.W.alike, PySem.W.alikeAll]
theorem nest_alike {β : Type} (f : β → E3) (bs : List β) : PySem.W.AllAlike (bs.map fun b => eNest (f b)) := PySem.W.AllAlike.of fun b b' => by simp [eNest, PySem.W.alike, PySem.W.alikeAll]
theorem flat_able {β : Type} (f : β → E3) (bs : List β) : PySem.W.Sortable (bs.map fun b => eFlat (f b)) := PySem.W.Sortable.tuples fun b => ⟨_, _, rfl⟩
theorem nest_able {β : Type} (f : β → E3) (bs : List β) : PySem.W.Sortable (bs.map fun b => eNest (f b)) := PySem.W.Sortable.tuples fun b => ⟨_, _, rfl⟩
theorem flat_deep (p : E3) : (eFlat p).depth ≤ 60 := by
  show max 0 (max 0 (max 0 0)) + 1 ≤ 60
  decide
theorem nest_deep (p : E3) : (eNest p).depth ≤ 60 := by
  show max 0 (max (max 0 (max 0 0) + 1) 0) + 1 ≤ 60
  decide
/-- sorted without anything twice: one list alone -/
theorem sorted3_uniq {xs ys : List E3} (hp : xs.Perm ys) (h1 : xs.Pairwise (fun p q => le3 p q = true)) (h2 : ys.Pairwise (fun p q => le3 p q = true)) : xs = ys := by
  refine hp.eq_of_pairwise (fun p q _ _ a b => ?_) h1 h2
  unfold le3 at a b
  simp only [Bool.not_eq_true', decide_eq_false_iff_not] at a b
  exact lex3_tri b a
theorem sort3_pw (xs : List E3) : (xs.mergeSort le3).Pairwise (fun p q => le3 p q = true) := List.pairwise_mergeSort (fun p q r => le3_tr p q r) (fun p q => le3_tot p q) xs
theorem sort3_map {β : Type} (f : β → E3) (bs : List β) : (bs.mergeSort fun p q => le3 (f p) (f q)).map f = (bs.map f).mergeSort le3 := by
  refine sorted3_uniq (((List.mergeSort_perm _ _).map f).trans (List.mergeSort_perm _ _).symm) ?_ (sort3_pw _)
  rw [List.pairwise_map]
  exact List.pairwise_mergeSort (le := fun p q => le3 (f p) (f q)) (fun p q r => le3_tr (f p) (f q) (f r)) (fun p q => le3_tot (f p) (f q)) bs
end SH
set_option Elab.async false
set_option linter.all false
set_option maxRecDepth 100000
set_option maxHeartbeats 4000000
/-! the ends of a house in their order, their commons -/
namespace SH
open PySem PySem.Spec PyProof.Rows L2
/-- an own loop over anything that is walked -/
theorem walk_gen {J : It} {n : Nat} {G : Hp → Prop} {Y : Nat → Hp → V → Hp → Prop} (w : Walk J n G Y) {Step : (Hp → Prop) → V → Hp → Prop} {H0 : Hp} {Qd : Hp → Prop} (Pv : Nat → Hp → Prop) (h0 : Pv 0 H0) (hG : ∀ i H, i ≤ n → Pv i H → G H)
    (hs : ∀ i x H H', i < n → Pv i H → Y i H x H' → Step (Pv (i + 1)) x H') (hd : ∀ H, Pv n H → Qd H) :
    ∃ W : Nat → Nat → Hp → Prop, (∃ m, W 0 m H0) ∧ ∀ i m H, W i m H →
      (J.stop i H ∧ Qd H) ∨ (J.go i H ∧ ∃ Nx : Hp → Prop, (∀ H', Nx H' → ∃ m', m' < m ∧ W (i + 1) m' H') ∧ ∀ x H', J.yld i H x H' → Step Nx x H') := by
  refine ⟨fun i m H => m = n - i ∧ i ≤ n ∧ Pv i H, ⟨n, by simp, Nat.zero_le _, h0⟩, ?_⟩
  rintro i m H ⟨rfl, hi, p⟩
  have q := hG i H hi p
  by_cases hlt : i < n
  · exact .inr ⟨w.goes i H hlt q, Pv (i + 1), fun H' p' => ⟨n - (i + 1), by omega, rfl, hlt, p'⟩, fun x H' y => hs i x H H' hlt p (w.yields i H x H' hlt q y)⟩
  · have e : i = n := by omega
    subst e
    exact .inl ⟨w.stops H q, hd H p⟩
/-! ### what is left of a text -/
def suf (z : Str) (s : Nat) : Str := cutS z (some (s : Int)) none
theorem suf_tl (z : Str) (s : Nat) : TL.tl (suf z s) = (TL.tl z).drop s := by
  show (z.cps.toList.drop (HT.sIx z.length 0 (some (s : Int)))).take (HT.sIx z.length z.length none - HT.sIx z.length 0 (some (s : Int))) = _
  rw [HT.sIx_nat, HT.sIx_none]
  have hl : z.cps.toList.length = z.length := rfl
  rw [List.take_of_length_le (by rw [List.length_drop, hl]; exact Nat.le_refl _)]
  rcases Nat.le_total s z.length with h | h
  · rw [Nat.min_eq_left h]
  · rw [Nat.min_eq_right h, List.drop_eq_nil_of_le (by omega)]
    exact (List.drop_eq_nil_of_le (by show z.cps.toList.length ≤ s; omega)).symm
theorem suf_len (z : Str) (s : Nat) : (suf z s).length = z.length - s := by
  have := congrArg List.length (suf_tl z s)
  rw [List.length_drop] at this
  exact this
theorem suf_let {z : Str} (h : IsLet z) (s : Nat) : IsLet (suf z s) := by
  show (TL.tl (suf z s)).all okc = true
  rw [suf_tl]
  exact List.all_eq_true.mpr fun c hc => List.all_eq_true.mp h c (List.mem_of_mem_drop hc)
/-! ### the ends -/
def endsOf (q : Int × Str) : List E3 := (List.range (q.2.length + 1)).map fun s => (suf q.2 s, q.1, (s : Int))
def ends3 (h : List (Int × Str)) : List E3 := h.flatMap endsOf
def ordE (h : List (Int × Str)) : List E3 := (ends3 h).mergeSort le3
theorem mem_endsOf {q : Int × Str} {e : E3} : e ∈ endsOf q ↔ ∃ s : Nat, s ≤ q.2.length ∧ e = (suf q.2 s, q.1, (s : Int)) := by
  unfold endsOf
  rw [List.mem_map]
  constructor
  · rintro ⟨s, hs, rfl⟩
    exact ⟨s, by have := List.mem_range.mp hs; omega, rfl⟩
  · rintro ⟨s, hs, rfl⟩
    exact ⟨s, List.mem_range.mpr (by omega), rfl⟩
theorem mem_ends3 {h : List (Int × Str)} {e : E3} : e ∈ ends3 h ↔ ∃ q ∈ h, ∃ s : Nat, s ≤ q.2.length ∧ e = (suf q.2 s, q.1, (s : Int)) := by
  unfold ends3
  rw [List.mem_flatMap]
  constructor
  · rintro ⟨q, hq, he⟩
    exact ⟨q, hq, mem_endsOf.mp he⟩
  · rintro ⟨q, hq, he⟩
    exact ⟨q, hq, mem_endsOf.mpr he⟩
theorem mem_ordE {h : List (Int × Str)} {e : E3} : e ∈ ordE h ↔ e ∈ ends3 h := (List.mergeSort_perm _ _).mem_iff
theorem endsOf_len (q : Int × Str) : (endsOf q).length = q.2.length + 1 := by
  unfold endsOf
  rw [List.length_map, List.length_range]
theorem ends3_len {m : Nat} : ∀ {h : List (Int × Str)}, (∀ q ∈ h, q.2.length ≤ m) → (ends3 h).length ≤ (m + 1) * h.length
  | [], _ => Nat.zero_le _
  | q :: r, a => by
    have e : ends3 (q :: r) = endsOf q ++ ends3 r := rfl
    rw [e, List.length_append, endsOf_len, List.length_cons, Nat.mul_add]
    have := a q (List.mem_cons_self ..)
    have := ends3_len fun x hx => a x (List.mem_cons_of_mem _ hx)
    omega
theorem ordE_len {m : Nat} {h : List (Int × Str)} (a : ∀ q ∈ h, q.2.length ≤ m) : (ordE h).length ≤ (m + 1) * h.length := by
  unfold ordE
  rw [List.length_mergeSort]
  exact ends3_len a
/-! ### commons -/
def comm : List Nat → List Nat → Nat
  | a :: x, b :: y => if a = b then comm x y + 1 else 0
  | _, _ => 0
theorem comm_le : ∀ x y : List Nat, comm x y ≤ x.length ∧ comm x y ≤ y.length
  | [], y => by unfold comm; simp
  | _ :: _, [] => by unfold comm; simp
  | a :: x, b :: y => by
    unfold comm
    have := comm_le x y
    split
    · simp only [List.length_cons]; omega
    · simp
/-- as many as are alike -/
theorem comm_at : ∀ (x y : List Nat) (i : Nat), i < comm x y → x[i]? = y[i]?
  | [], y, i, h => by simp [comm] at h
  | _ :: _, [], i, h => by simp [comm] at h
  | a :: x, b :: y, i, h => by
    unfold comm at h
    by_cases e : a = b
    · rw [if_pos e] at h
      cases i with
      | zero => simp [e]
      | succ i => simpa using comm_at x y i (by omega)
    · rw [if_neg e] at h
      omega
/-- the next ones are not -/
theorem comm_ne : ∀ (x y : List Nat) (c d : Nat), x[comm x y]? = some c → y[comm x y]? = some d → c ≠ d
  | [], y, c, d, h, _ => by simp [comm] at h
  | _ :: _, [], c, d, _, h => by simp [comm] at h
  | a :: x, b :: y, c, d, h, h2 => by
    unfold comm at h h2
    by_cases e : a = b
    · rw [if_pos e] at h h2
      exact comm_ne x y c d (by simpa using h) (by simpa using h2)
    · rw [if_neg e] at h h2
      simp at h h2
      rw [← h, ← h2]
      exact e
/-- so is the number told by these two -/
theorem comm_of {x y : List Nat} {n : Nat} (h1 : n ≤ x.length) (h2 : n ≤ y.length) (ha : ∀ i, i < n → x[i]? = y[i]?) (hn : n = x.length ∨ n = y.length ∨ x[n]? ≠ y[n]?) : comm x y = n := by
  have l := comm_le x y
  rcases Nat.lt_trichotomy (comm x y) n with h | h | h
  · exfalso
    have e1 : x[comm x y]? = some (x[comm x y]'(by omega)) := List.getElem?_eq_getElem (by omega)
    have e2 : y[comm x y]? = some (y[comm x y]'(by omega)) := List.getElem?_eq_getElem (by omega)
    have := ha _ h
    rw [e1, e2] at this
    exact comm_ne x y _ _ e1 e2 (Option.some.inj this)
  · exact h
  · exfalso
    rcases hn with e | e | e
    · omega
    · omega
    · exact e (comm_at x y n h)
def letsAt (E : List E3) (k : Nat) : List Nat := ((E[k]?).map fun e => TL.tl e.1).getD []
/-- the common of the k-th and the next -/
def cmAt (E : List E3) (k : Nat) : Int := (comm (letsAt E k) (letsAt E (k + 1)) : Nat)
def cmsE (E : List E3) : List Int := (List.range E.length).map fun k => if k = 0 then 0 else cmAt E (k - 1)
theorem cmsE_cons {E : List E3} {n : Nat} (h : E.length = n + 1) : cmsE E = 0 :: (List.range n).map (cmAt E) := by
  unfold cmsE
  rw [h, List.range_succ_eq_map, List.map_cons, List.map_map]
  rfl
theorem cmsE_len (E : List E3) : (cmsE E).length = E.length := by
  unfold cmsE
  rw [List.length_map, List.length_range]
theorem letsAt_eq {E : List E3} {k : Nat} {e : E3} (h : E[k]? = some e) : letsAt E k = TL.tl e.1 := by
  unfold letsAt
  rw [h]
  rfl
/-! ### places in the heap -/
abbrev QT := List (Addr × Int × Int)
def qrefs (R : QT) : List V := R.map fun q => V.ref q.1
def QAt (K : PySem.W.Frag) (H : Hp) (R : QT) : Prop := ∀ q ∈ R, SqT K H q.1 [.int q.2.1, .int q.2.2]
theorem QAt.same {K : PySem.W.Frag} {H H' : Hp} {R : QT} (e : Same H H') (h : QAt K H R) : QAt K H' R := fun q hq => same_tup e (h q hq)
theorem qrefs_len (R : QT) : (qrefs R).length = R.length := List.length_map ..
theorem qrefs_at {R : QT} {i : Nat} {x : V} (h : (qrefs R)[i]? = some x) : ∃ t, R[i]? = some t ∧ t ∈ R ∧ x = .ref t.1 := by
  unfold qrefs at h
  rw [List.getElem?_map] at h
  cases e : R[i]? with
  | none => rw [e] at h; cases h
  | some t =>
    rw [e] at h
    cases h
    exact ⟨t, rfl, List.mem_of_getElem? e, rfl⟩
def dP2 (q : Int × Int) : PyData := .tuple [.int q.1, .int q.2]
def dQ (l : List (Int × Int)) : PyData := .list (l.map dP2)
theorem dp_qs {K : PySem.W.Frag} {H : Hp} : ∀ (R : QT), QAt K H R → DpAll K H (qrefs R) ((R.map (·.2)).map dP2)
  | [], _ => .nil
  | q :: r, h => .cons (.tup (h q (List.mem_cons_self ..)) (.cons (.int _) (.cons (.int _) .nil))) (dp_qs r fun x m => h x (List.mem_cons_of_mem _ m))
theorem dp_q {K : PySem.W.Frag} {H : Hp} {a : Addr} {R : QT} (h : SqL K H a (qrefs R)) (hq : QAt K H R) : Dp K H (.ref a) (dQ (R.map (·.2))) := .lst h (dp_qs R hq)
theorem dQ_lay : ∀ (l : List (Int × Int)), PyData.canLayAll0 (l.map dP2) = true
  | [] => rfl
  | q :: r => by
    rw [List.map_cons, PyData.canLayAll0, dQ_lay r]
    simp [dP2, PyData.canLay0, PyData.canLayAll0]
theorem dQ_deep : ∀ (l : List (Int × Int)), PyData.depthAll (l.map dP2) ≤ 1
  | [] => Nat.zero_le _
  | q :: r => by
    rw [List.map_cons, PyData.depthAll]
    have := dQ_deep r
    have e : PyData.depth (dP2 q) = 1 := rfl
    rw [e]
    omega
theorem shaped_of {d : PyData} (h : d.canLay0 = true) (h2 : d.depth ≤ 64) : SeqAt.shaped d = true := by
  unfold SeqAt.shaped
  rw [h, decide_eq_true h2]
  rfl
theorem dQ_shaped (l : List (Int × Int)) : SeqAt.shaped (dQ l) = true := shaped_of (dQ_lay l) (by
  show PyData.depthAll (l.map dP2) + 1 ≤ 64
  have := dQ_deep l
  omega)
theorem dQ_refl (l : List (Int × Int)) : PyData.eqv (dQ l) (dQ l) = true := SeqAt.eqv_refl _ (show (dQ l).canLay0 = true from dQ_lay l)
/-! lists of numbers as data -/
def dI (l : List Int) : PyData := .list (l.map .int)
theorem dp_is {K : PySem.W.Frag} {H : Hp} : ∀ (l : List Int), DpAll K H (l.map V.int) (l.map PyData.int)
  | [] => .nil
  | _ :: r => .cons (.int _) (dp_is r)
theorem dp_i {K : PySem.W.Frag} {H : Hp} {a : Addr} {l : List Int} (h : SqL K H a (l.map V.int)) : Dp K H (.ref a) (dI l) := .lst h (dp_is l)
theorem dI_lay : ∀ (l : List Int), PyData.canLayAll0 (l.map PyData.int) = true
  | [] => rfl
  | q :: r => by
    rw [List.map_cons, PyData.canLayAll0, dI_lay r]
    simp [PyData.canLay0]
theorem dI_shaped (l : List Int) : SeqAt.shaped (dI l) = true := shaped_of (dI_lay l) (by
  show PyData.depthAll (l.map PyData.int) + 1 ≤ 64
  rw [PySem.W.depth_ints]
  decide)
theorem dI_refl (l : List Int) : PyData.eqv (dI l) (dI l) = true := SeqAt.eqv_refl _ (show (dI l).canLay0 = true from dI_lay l)
/-! ### triples in the heap, flat and nested -/
abbrev FT := List (Addr × E3)
def frefs (Z : FT) : List V := Z.map fun z => V.ref z.1
def FAt (H : Hp) (Z : FT) : Prop := ∀ z ∈ Z, H z.1 = some (.tup [.str z.2.1, .int z.2.2.1, .int z.2.2.2])
abbrev NT3 := List (Addr × Addr × E3)
def nrefs (Z : NT3) : List V := Z.map fun z => V.ref z.1
def NAt (H : Hp) (Z : NT3) : Prop := ∀ z ∈ Z, H z.1 = some (.tup [.str z.2.2.1, .ref z.2.1]) ∧ H z.2.1 = some (.tup [.int z.2.2.2.1, .int z.2.2.2.2])
theorem FAt.same {H H' : Hp} {Z : FT} (e : Same H H') (h : FAt H Z) : FAt H' Z := fun z m => e _ _ (h z m)
theorem NAt.same {H H' : Hp} {Z : NT3} (e : Same H H') (h : NAt H Z) : NAt H' Z := fun z m => ⟨e _ _ (h z m).1, e _ _ (h z m).2⟩
theorem FAt.snoc {H : Hp} {Z : FT} {z : Addr × E3} (h : FAt H Z) (hz : H z.1 = some (.tup [.str z.2.1, .int z.2.2.1, .int z.2.2.2])) : FAt H (Z ++ [z]) := fun y hy => by
  rcases List.mem_append.mp hy with m | m
  · exact h y m
  · rw [List.mem_singleton.mp m]; exact hz
theorem NAt.snoc {H : Hp} {Z : NT3} {z : Addr × Addr × E3} (h : NAt H Z) (hz : H z.1 = some (.tup [.str z.2.2.1, .ref z.2.1]) ∧ H z.2.1 = some (.tup [.int z.2.2.2.1, .int z.2.2.2.2])) : NAt H (Z ++ [z]) := fun y hy => by
  rcases List.mem_append.mp hy with m | m
  · exact h y m
  · rw [List.mem_singleton.mp m]; exact hz
/-- a list that is written lies apart from what the tuples are -/
theorem FAt.put {H : Hp} {Z : FT} {D : Addr} {l : List V} {o : HO} (h : FAt H Z) (hD : H D = some (.lst l)) : FAt (upd H D o) Z := fun z m => by
  have := h z m
  rw [upd_ne (fun e => by rw [e, hD] at this; cases this)]
  exact this
theorem NAt.put {H : Hp} {Z : NT3} {D : Addr} {l : List V} {o : HO} (h : NAt H Z) (hD : H D = some (.lst l)) : NAt (upd H D o) Z := fun z m => by
  have := h z m
  rw [upd_ne (fun e => by rw [e, hD] at this; cases this.1), upd_ne (fun e => by rw [e, hD] at this; cases this.2)]
  exact this
theorem QAt.put {K : PySem.W.Frag} {H : Hp} {R : QT} {D : Addr} {l : List V} {o : HO} (h : QAt K H R) (hD : H D = some (.lst l)) : QAt K (upd H D o) R := fun z m => but_tup (l := l) hD but_upd (h z m)
theorem sort_flat (Z : FT) : ((Z.map fun z => (V.ref z.1, z.2)).mergeSort (PySem.W.dataLe false fun z => eFlat z.2)).map (·.1) = frefs (Z.mergeSort fun p q => le3 p.2 q.2) := by
  rw [flat_le (β := V × E3) (fun z => z.2), ← List.map_mergeSort (l := Z) (f := fun z : Addr × E3 => (V.ref z.1, z.2)) (r := fun p q : Addr × E3 => le3 p.2 q.2) (s := fun p q : V × E3 => le3 p.2 q.2) (fun _ _ _ _ => rfl), List.map_map]
  rfl
theorem sort_nest (Z : NT3) : ((Z.map fun z => (V.ref z.1, z.2.2)).mergeSort (PySem.W.dataLe false fun z => eNest z.2)).map (·.1) = nrefs (Z.mergeSort fun p q => le3 p.2.2 q.2.2) := by
  rw [nest_le (β := V × E3) (fun z => z.2), ← List.map_mergeSort (l := Z) (f := fun z : Addr × Addr × E3 => (V.ref z.1, z.2.2)) (r := fun p q : Addr × Addr × E3 => le3 p.2.2 q.2.2) (s := fun p q : V × E3 => le3 p.2 q.2) (fun _ _ _ _ => rfl), List.map_map]
  rfl
theorem ends3_snoc (h : List (Int × Str)) (q : Int × Str) : ends3 (h ++ [q]) = ends3 h ++ endsOf q := by
  unfold ends3
  rw [List.flatMap_append]
  simp
theorem take_snoc {α : Type} {l : List α} {i : Nat} {x : α} (h : l[i]? = some x) : l.take (i + 1) = l.take i ++ [x] := by
  rw [List.take_add_one, h]
  rfl
theorem endsOf_at {q : Int × Str} {s : Nat} (h : s ≤ q.2.length) : (endsOf q)[s]? = some (suf q.2 s, q.1, (s : Int)) := by
  unfold endsOf
  rw [List.getElem?_map, List.getElem?_range (by omega)]
  rfl
/-- the order: a new list of new pairs -/
def spOrder (K : PySem.W.Frag) : Sp := fun vs H Q _ => ∃ (a : Addr) (L : PL), vs = [.ref a] ∧ HsAt K H a L ∧ L.length ≤ 500 ∧ (∀ q ∈ L, q.2.2.length ≤ 100) ∧
  ∀ (l : Addr) (R : QT) (H' : Hp), Same H H' → H l = none → H' l = some (.lst (qrefs R)) → QAt K H' R → R.map (·.2) = (ordE (L.map (·.2))).map (·.2) → Q (.ref l) H'
end SH
set_option Elab.async false
set_option linter.all false
set_option maxRecDepth 100000
set_option maxHeartbeats 4000000
/-! a house as a dict; slices of lists -/
namespace SH
open PySem PySem.Spec PyProof.Rows L2
namespace Dct
theorem valV_merge_out {k : Key} : ∀ (more acc : List (Key × V)), k ∉ more.map (·.1) → valV (mergeK acc more) k = valV acc k
  | [], _, _ => rfl
  | x :: r, acc, h => by
    rw [List.map_cons, List.mem_cons] at h
    show valV (mergeK (putK acc x.1 x.2) r) k = _
    rw [valV_merge_out r _ (fun z => h (.inr z)), valV_put, if_neg (fun z => h (.inl z))]
theorem valV_merge_in {k : Key} {v : V} : ∀ (more acc : List (Key × V)), (more.map (·.1)).Nodup → (k, v) ∈ more → valV (mergeK acc more) k = some v
  | x :: r, acc, nd, h => by
    rw [List.map_cons, List.nodup_cons] at nd
    show valV (mergeK (putK acc x.1 x.2) r) k = _
    rcases List.mem_cons.mp h with e | m
    · rw [← e] at nd ⊢
      rw [valV_merge_out r _ nd.1, valV_put, if_pos rfl]
    · exact valV_merge_in r _ nd.2 m
theorem take_drop_cut {z : Str} {a b : Nat} (h1 : a ≤ b) (h2 : b ≤ z.length) : TL.tl (cutS z (some (a : Int)) (some (b : Int))) = ((TL.tl z).take b).drop a := by
  show (z.cps.toList.drop (HT.sIx z.length 0 (some (a : Int)))).take (HT.sIx z.length z.length (some (b : Int)) - HT.sIx z.length 0 (some (a : Int))) = _
  rw [HT.sIx_nat, HT.sIx_nat, Nat.min_eq_left h2, Nat.min_eq_left (Nat.le_trans h1 h2), List.drop_take]
theorem paired_house {K : PySem.W.Frag} {H : Hp} : ∀ {L : PL}, PairsAt K H L → Paired (fun p (kv : Key × V) => SqT K H p [kV kv.1, kv.2]) (L.map (·.1)) (L.map fun q => ((Sum.inl q.2.1 : Key), V.str q.2.2))
  | [], _ => .nil
  | q :: r, h => .cons (h q (List.mem_cons_self ..)) (paired_house fun x m => h x (List.mem_cons_of_mem _ m))

theorem house_get {L : PL} (asc : ((L.map (·.2)).map (·.1)).Pairwise (· < ·)) {n : Int} {z : Str} (h : (n, z) ∈ L.map (·.2)) : valV (mergeK [] (L.map fun q => ((Sum.inl q.2.1 : Key), V.str q.2.2))) (.inl n) = some (.str z) := by
  obtain ⟨q, hq, e⟩ := List.mem_map.mp h
  have e1 : q.2.1 = n := congrArg Prod.fst e
  have e2 : q.2.2 = z := congrArg Prod.snd e
  subst e1 e2
  refine valV_merge_in _ _ ?_ (List.mem_map.mpr ⟨q, hq, rfl⟩)
  rw [List.map_map]
  rw [List.map_map, List.pairwise_map] at asc
  rw [List.Nodup, List.pairwise_map]
  exact asc.imp fun h e => by
    have h : _ < _ := h
    have := Sum.inl.inj e
    simp only [Function.comp] at h
    omega
theorem cut_from (xs : List V) (k : Nat) : cutV xs (some (k : Int)) none = xs.drop k := by
  unfold cutV
  rw [HT.sIx_nat, HT.sIx_none]
  rcases Nat.le_total k xs.length with h | h
  · rw [Nat.min_eq_left h, List.take_of_length_le (by rw [List.length_drop]; exact Nat.le_refl _)]
  · rw [Nat.min_eq_right h, Nat.sub_self, List.take_zero, List.drop_eq_nil_of_le h]
end Dct
end SH
set_option Elab.async false
set_option linter.all false
set_option maxRecDepth 100000
set_option maxHeartbeats 4000000
/-! the text with a number; an end told by its number and start -/
namespace SH
open PySem PySem.Spec PyProof.Rows L2
theorem refs_len (L : PL) : (refs L).length = L.length := List.length_map ..
def lk (n : Int) : List (Int × Str) → Option Str
  | [] => none
  | q :: r => if q.1 = n then some q.2 else lk n r
theorem lk_mem {n : Int} {z : Str} : ∀ {h : List (Int × Str)}, lk n h = some z → (n, z) ∈ h
  | q :: r, e => by
    unfold lk at e
    by_cases c : q.1 = n
    · rw [if_pos c] at e
      have e := Option.some.inj e
      obtain ⟨a, b⟩ := q
      subst c e
      exact List.mem_cons_self ..
    · rw [if_neg c] at e
      exact List.mem_cons_of_mem _ (lk_mem e)
theorem lk_none {n : Int} : ∀ {h : List (Int × Str)}, lk n h = none → n ∉ h.map (·.1)
  | [], _ => by simp
  | q :: r, e => by
    unfold lk at e
    by_cases c : q.1 = n
    · rw [if_pos c] at e
      cases e
    · rw [if_neg c] at e
      rw [List.map_cons, List.mem_cons, not_or]
      exact ⟨fun z => c z.symm, lk_none e⟩
theorem lk_of {n : Int} {z : Str} : ∀ {h : List (Int × Str)}, (h.map (·.1)).Pairwise (· < ·) → (n, z) ∈ h → lk n h = some z
  | q :: r, asc, m => by
    rw [List.map_cons, List.pairwise_cons] at asc
    unfold lk
    rcases List.mem_cons.mp m with e | m
    · rw [← e, if_pos rfl]
    · have := asc.1 n (List.mem_map.mpr ⟨_, m, rfl⟩)
      rw [if_neg (by omega)]
      exact lk_of asc.2 m
theorem lk_no {n : Int} {h : List (Int × Str)} (m : n ∉ h.map (·.1)) : lk n h = none := by
  cases e : lk n h with
  | none => rfl
  | some z => exact absurd (List.mem_map.mpr ⟨_, lk_mem e, rfl⟩) m
/-- dict(house) at a number -/
theorem lk_val {L : PL} (asc : ((L.map (·.2)).map (·.1)).Pairwise (· < ·)) (n : Int) : valV (mergeK [] (L.map fun q => ((Sum.inl q.2.1 : Key), V.str q.2.2))) (.inl n) = (lk n (L.map (·.2))).map V.str := by
  cases e : lk n (L.map (·.2)) with
  | some z => exact Dct.house_get asc (lk_mem e)
  | none =>
    rw [Dct.valV_merge_out _ _ (fun z => ?_)]
    · rfl
    · rw [List.map_map] at z
      obtain ⟨q, hq, e2⟩ := List.mem_map.mp z
      refine lk_none e ?_
      rw [List.map_map]
      exact List.mem_map.mpr ⟨q, hq, Sum.inl.inj e2⟩
/-- the letters of an end -/
def endS (h : List (Int × Str)) (n s : Int) : Option Str :=
  match lk n h with
  | none => none
  | some z => if 0 ≤ s ∧ s ≤ (z.length : Int) then some (suf z s.toNat) else none
theorem endS_some {h : List (Int × Str)} {n s : Int} {x : Str} (e : endS h n s = some x) : ∃ z, lk n h = some z ∧ 0 ≤ s ∧ s ≤ (z.length : Int) ∧ x = suf z s.toNat := by
  unfold endS at e
  cases c : lk n h with
  | none => rw [c] at e; cases e
  | some z =>
    rw [c] at e
    by_cases d : 0 ≤ s ∧ s ≤ (z.length : Int)
    · have e : (if 0 ≤ s ∧ s ≤ (z.length : Int) then some (suf z s.toNat) else none) = some x := e
      rw [if_pos d] at e
      exact ⟨z, rfl, d.1, d.2, (Option.some.inj e).symm⟩
    · have e : (if 0 ≤ s ∧ s ≤ (z.length : Int) then some (suf z s.toNat) else none) = some x := e
      rw [if_neg d] at e
      cases e
theorem endS_of {h : List (Int × Str)} {n s : Int} {z : Str} (e : lk n h = some z) (d : 0 ≤ s ∧ s ≤ (z.length : Int)) : endS h n s = some (suf z s.toNat) := by
  unfold endS
  rw [e]
  exact if_pos d
theorem endS_out {h : List (Int × Str)} {n s : Int} {z : Str} (e : lk n h = some z) (d : ¬ (0 ≤ s ∧ s ≤ (z.length : Int))) : endS h n s = none := by
  unfold endS
  rw [e]
  exact if_neg d
theorem endS_no {h : List (Int × Str)} {n s : Int} (e : lk n h = none) : endS h n s = none := by
  unfold endS
  rw [e]
/-- an error of the class at C with this number leaves -/
def Errs (E : XK) (H : Hp) (C : Addr) (n : Int) : Prop := ∀ (d : Addr) (H2 : Hp), Same H H2 → H d = none → H2 d = some (.xd [(("at" : Str), .int n)]) → E (.ref C) (some d) H2
theorem Errs.same {E : XK} {H H' : Hp} {C : Addr} {n : Int} (s : Same H H') (h : Errs E H C n) : Errs E H' C n := fun d H2 s2 nd e => h d H2 (s.trans s2) (s.free nd) e
end SH
set_option Elab.async false
set_option linter.all false
set_option maxRecDepth 100000
set_option maxHeartbeats 4000000
/-! ends by what they begin with; a while with its own invariant -/
namespace SH
open PySem PySem.Spec PyProof.Rows L2
theorem while_i {c : TT} {tb : TS} {D : Ends} {σ : L2.St} {H : Hp} (W : Nat → L2.St → Hp → Prop) {m : Nat} (h0 : W m σ H)
    (hs : ∀ m σ H, W m σ H → c σ H fun b H1 => if b = true then tb { D with nx := fun σ' H' => ∃ m', m' < m ∧ W m' σ' H', ct := fun σ' H' => ∃ m', m' < m ∧ W m' σ' H', bk := D.nx } σ H1 else D.nx σ H1)
    (mono : ∀ σ H Q Q', (∀ b H1, Q b H1 → Q' b H1) → c σ H Q → c σ H Q') : tWhile c tb D σ H := by
  refine ⟨W, ⟨m, h0⟩, fun m σ H w => mono σ H _ _ (fun b H1 q => ?_) (hs m σ H w)⟩
  cases b with
  | true => exact ⟨_, fun σ' H' x => x, q⟩
  | false => exact q
theorem cut_mid {z : Str} {s n : Nat} (hs : s ≤ z.length) : TL.tl (cutS z (some (s : Int)) (some ((s : Int) + (n : Int)))) = ((TL.tl z).drop s).take n := by
  have e : ((s : Int) + (n : Int)) = ((s + n : Nat) : Int) := by omega
  rw [e]
  show (z.cps.toList.drop (HT.sIx z.length 0 (some (s : Int)))).take (HT.sIx z.length z.length (some ((s + n : Nat) : Int)) - HT.sIx z.length 0 (some (s : Int))) = _
  rw [HT.sIx_nat, HT.sIx_nat, Nat.min_eq_left hs]
  have hl : z.cps.toList.length = z.length := rfl
  rcases Nat.le_total (s + n) z.length with h | h
  · rw [Nat.min_eq_left h, Nat.add_sub_cancel_left]
  · rw [Nat.min_eq_right h, List.take_of_length_le (by rw [List.length_drop, hl]; exact Nat.le_refl _)]
    exact (List.take_of_length_le (by rw [List.length_drop]; show z.length - s ≤ n; omega)).symm
/-! ### the order of lists of signs -/
theorem nl_take : ∀ (n : Nat) (x y : List Nat), ¬ y < x → ¬ y.take n < x.take n
  | 0, _, _, _ => by simp
  | n + 1, [], y, _ => by simp
  | n + 1, a :: x, [], h => absurd (List.Lex.nil : ([] : List Nat) < a :: x) h
  | n + 1, a :: x, b :: y, h => by
    rw [List.take_succ_cons, List.take_succ_cons]
    intro z
    rw [List.cons_lt_cons_iff] at z h
    rcases z with z | ⟨e, z⟩
    · exact h (.inl z)
    · exact nl_take n x y (fun q => h (.inr ⟨e, q⟩)) z
/-- cut to a word's length it is less just where it is -/
theorem take_lt : ∀ (w x : List Nat), x.take w.length < w ↔ x < w
  | [], x => by simp
  | b :: w, [] => by simp
  | b :: w, a :: x => by
    rw [List.length_cons, List.take_succ_cons, List.cons_lt_cons_iff, List.cons_lt_cons_iff, take_lt w x]
theorem take_eq_not_lt {w x : List Nat} (h : x.take w.length = w) : ¬ x < w := fun z => by
  have := (take_lt w x).mpr z
  rw [h] at this
  exact List.lt_irrefl _ this
theorem le3_letters {p q : E3} (h : le3 p q = true) : ¬ TL.tl q.1 < TL.tl p.1 := fun z => by
  unfold le3 at h
  simp only [Bool.not_eq_true', decide_eq_false_iff_not] at h
  exact h (.inl z)
/-- less than all that begin with the word, or beginning with it -/
def prW (w : Str) (b : Bool) (e : E3) : Bool := decide (TL.tl e.1 < TL.tl w) || (b && decide ((TL.tl e.1).take w.length = TL.tl w))
theorem prW_mono {w : Str} {b : Bool} {p q : E3} (h : le3 p q = true) (hq : prW w b q = true) : prW w b p = true := by
  unfold prW at *
  have n := le3_letters h
  have nt := nl_take w.length _ _ n
  rw [Bool.or_eq_true, decide_eq_true_eq] at hq ⊢
  rcases hq with hq | hq
  · refine .inl ?_
    rcases List.le_iff_lt_or_eq.mp (List.not_lt.mp n) with c | c
    · exact List.lt_trans c hq
    · rw [c]; exact hq
  · rw [Bool.and_eq_true, decide_eq_true_eq] at hq
    obtain ⟨rfl, e⟩ := hq
    rw [e] at nt
    rcases List.le_iff_lt_or_eq.mp (List.not_lt.mp nt) with c | c
    · exact .inl ((take_lt _ _).mp c)
    · refine .inr ?_
      rw [Bool.true_and, decide_eq_true_eq]
      exact c
theorem filter_cut {α : Type} {E : List α} {p : α → Bool} {n : Nat} (h1 : ∀ (i : Nat) (h : i < E.length), i < n → p E[i] = true) (h2 : ∀ (i : Nat) (h : i < E.length), n ≤ i → p E[i] = false) : E.filter p = E.take n := by
  conv => lhs; rw [← List.take_append_drop n E]
  rw [List.filter_append]
  have a : (E.take n).filter p = E.take n := List.filter_eq_self.mpr fun x hx => by
    obtain ⟨i, hi, rfl⟩ := List.getElem_of_mem hx
    rw [List.length_take] at hi
    rw [List.getElem_take]
    exact h1 i (by omega) (by omega)
  have b : (E.drop n).filter p = [] := List.filter_eq_nil_iff.mpr fun x hx => by
    obtain ⟨i, hi, rfl⟩ := List.getElem_of_mem hx
    rw [List.length_drop] at hi
    rw [List.getElem_drop, h2 (n + i) (by omega) (by omega)]
    exact Bool.false_ne_true
  rw [a, b, List.append_nil]
theorem filter_or_len {α : Type} {p q : α → Bool} : ∀ {E : List α}, (∀ x ∈ E, ¬ (p x = true ∧ q x = true)) → (E.filter fun x => p x || q x).length = (E.filter p).length + (E.filter q).length
  | [], _ => rfl
  | x :: E, h => by
    have ih := filter_or_len (p := p) (q := q) (E := E) fun y hy => h y (List.mem_cons_of_mem _ hy)
    have hx := h x (List.mem_cons_self ..)
    cases a : p x <;> cases b : q x
    · rw [List.filter_cons_of_neg (by rw [a, b]; decide), List.filter_cons_of_neg (by rw [a]; decide), List.filter_cons_of_neg (by rw [b]; decide), ih]
    · rw [List.filter_cons_of_pos (by rw [a, b]; decide), List.filter_cons_of_neg (by rw [a]; decide), List.filter_cons_of_pos (by rw [b]), List.length_cons, List.length_cons, ih]
      omega
    · rw [List.filter_cons_of_pos (by rw [a, b]; decide), List.filter_cons_of_pos (by rw [a]), List.filter_cons_of_neg (by rw [b]; decide), List.length_cons, List.length_cons, ih]
      omega
    · exact absurd ⟨a, b⟩ hx
/-- the range of a word: from this index .. -/
def rFirst (w : Str) (E : List E3) : Nat := (E.filter fun e => decide (TL.tl e.1 < TL.tl w)).length
/-- .. so many -/
def rMany (w : Str) (E : List E3) : Nat := (E.filter fun e => decide ((TL.tl e.1).take w.length = TL.tl w)).length
theorem prW_f (w : Str) (E : List E3) : (E.filter (prW w false)).length = rFirst w E := by
  unfold rFirst
  congr 2
  funext e
  unfold prW
  simp
theorem prW_t (w : Str) (E : List E3) : (E.filter (prW w true)).length = rFirst w E + rMany w E := by
  unfold rFirst rMany
  rw [← filter_or_len (E := E) fun e _ h => ?_]
  · rfl
  · rw [decide_eq_true_eq, decide_eq_true_eq] at h
    exact take_eq_not_lt h.2 h.1
theorem ordE_pw (h : List (Int × Str)) : (ordE h).Pairwise (fun p q => le3 p q = true) := sort3_pw _
theorem pw_at {α : Type} {r : α → α → Prop} {E : List α} (h : E.Pairwise r) (hr : ∀ x, r x x) {i j : Nat} (hi : i < E.length) (hj : j < E.length) (l : i ≤ j) : r E[i] E[j] := by
  rcases Nat.lt_or_ge i j with c | c
  · exact List.pairwise_iff_getElem.mp h i j hi hj c
  · have : i = j := by omega
    subst this
    exact hr _
theorem le3_refl (p : E3) : le3 p p = true := by
  unfold le3
  rw [decide_eq_false (lex3_irrefl p)]
  rfl
end SH
set_option Elab.async false
set_option linter.all false
set_option maxRecDepth 100000
set_option maxHeartbeats 4000000
/-! tuples of data -/
namespace SH
open PySem PySem.Spec PyProof.Rows L2
def Okd (d : PyData) : Prop := d.canLay0 = true ∧ d.depth ≤ 60
theorem okd_int (n : Int) : Okd (.int n) := ⟨rfl, Nat.zero_le _⟩
theorem okd_str {z : Str} (h : PyData.strOk z = true) : Okd (.str z) := ⟨h, Nat.zero_le _⟩
theorem okd_non : Okd .none := ⟨rfl, Nat.zero_le _⟩
theorem okd_bool (b : Bool) : Okd (.bool b) := ⟨rfl, Nat.zero_le _⟩
theorem okd_H {h : List (Int × Str)} (a : LetAll h) : Okd (dH h) := ⟨dH_lay a, dH_depth h⟩
theorem okd_Q (l : List (Int × Int)) : Okd (dQ l) := ⟨dQ_lay l, by show PyData.depthAll (l.map dP2) + 1 ≤ 60; have := dQ_deep l; omega⟩
theorem okd_I (l : List Int) : Okd (dI l) := ⟨dI_lay l, by show PyData.depthAll (l.map PyData.int) + 1 ≤ 60; rw [PySem.W.depth_ints]; decide⟩
theorem okd_P2 (q : Int × Int) : Okd (dP2 q) := ⟨rfl, by show 1 ≤ 60; decide⟩
/-- data are equal to themselves -/
theorem okd_sh {d : PyData} (h : Okd d) : SeqAt.shaped d = true ∧ PyData.eqv d d = true := ⟨shaped_of h.1 (by have := h.2; omega), SeqAt.eqv_refl _ h.1⟩
theorem dp_p2 {K : PySem.W.Frag} {H : Hp} {t : Addr} {n m : Int} (h : H t = some (.tup [.int n, .int m])) : Dp K H (.ref t) (dP2 (n, m)) := .tup (.inl (.inl h)) (.cons (.int _) (.cons (.int _) .nil))
theorem lay_all : ∀ {ds : List PyData}, (∀ d ∈ ds, d.canLay0 = true) → PyData.canLayAll0 ds = true
  | [], _ => rfl
  | d :: r, h => by
    rw [PyData.canLayAll0, h d (List.mem_cons_self ..), lay_all fun x m => h x (List.mem_cons_of_mem _ m)]
    rfl
theorem deep_all {n : Nat} : ∀ {ds : List PyData}, (∀ d ∈ ds, d.depth ≤ n) → PyData.depthAll ds ≤ n
  | [], _ => Nat.zero_le _
  | d :: r, h => by
    rw [PyData.depthAll]
    have := h d (List.mem_cons_self ..)
    have := deep_all fun x m => h x (List.mem_cons_of_mem _ m)
    omega
theorem okd_tup {ds : List PyData} (h : ∀ d ∈ ds, d.canLay0 = true) (h2 : ∀ d ∈ ds, d.depth ≤ 59) : Okd (.tuple ds) := ⟨lay_all h, by
  show PyData.depthAll ds + 1 ≤ 60
  have := deep_all h2
  omega⟩
theorem okd_list {ds : List PyData} (h : ∀ d ∈ ds, d.canLay0 = true) (h2 : ∀ d ∈ ds, d.depth ≤ 59) : Okd (.list ds) := ⟨lay_all h, by
  show PyData.depthAll ds + 1 ≤ 60
  have := deep_all h2
  omega⟩
theorem dH_d (h : List (Int × Str)) : (dH h).depth ≤ 2 := by
  show PyData.depthAll (h.map dPair) + 1 ≤ 2
  have := dH_deep h
  omega
theorem dQ_d (l : List (Int × Int)) : (dQ l).depth ≤ 2 := by
  show PyData.depthAll (l.map dP2) + 1 ≤ 2
  have := dQ_deep l
  omega
theorem dI_d (l : List Int) : (dI l).depth ≤ 1 := by
  show PyData.depthAll (l.map PyData.int) + 1 ≤ 1
  rw [PySem.W.depth_ints]
  decide
/-- a tuple of a house and its order -/
theorem okd_HQ {h : List (Int × Str)} (a : LetAll h) (l : List (Int × Int)) : Okd (.tuple [dH h, dQ l]) := okd_tup (fun d m => by
  simp only [List.mem_cons, List.not_mem_nil, or_false] at m
  rcases m with rfl | rfl
  · exact dH_lay a
  · exact dQ_lay l) fun d m => by
  simp only [List.mem_cons, List.not_mem_nil, or_false] at m
  rcases m with rfl | rfl
  · exact Nat.le_trans (dH_d h) (by decide)
  · exact Nat.le_trans (dQ_d l) (by decide)
theorem okd_HQI {h : List (Int × Str)} (a : LetAll h) (l : List (Int × Int)) (c : List Int) : Okd (.tuple [dH h, dQ l, dI c]) := okd_tup (fun d m => by
  simp only [List.mem_cons, List.not_mem_nil, or_false] at m
  rcases m with rfl | rfl | rfl
  · exact dH_lay a
  · exact dQ_lay l
  · exact dI_lay c) fun d m => by
  simp only [List.mem_cons, List.not_mem_nil, or_false] at m
  rcases m with rfl | rfl | rfl
  · exact Nat.le_trans (dH_d h) (by decide)
  · exact Nat.le_trans (dQ_d l) (by decide)
  · exact Nat.le_trans (dI_d c) (by decide)
end SH
set_option Elab.async false
set_option linter.all false
set_option maxRecDepth 100000
set_option maxHeartbeats 4000000
/-! the places of a word; pairs sorted -/
namespace SH
open PySem PySem.Spec PyProof.Rows L2
def e2 (q : Int × Int) : E3 := ("", q)
theorem p2_le {β : Type} (f : β → Int × Int) : PySem.W.dataLe false (fun b => dP2 (f b)) = fun p q => le3 (e2 (f p)) (e2 (f q)) := by
  funext p q
  show (!PySem.W.dataLt (dP2 (f q)) (dP2 (f p))) = _
  unfold dP2
  rw [PySem.W.dataLt_ii]
  unfold le3 lex3 e2
  congr 1
  refine decide_eq_decide.mpr ⟨fun h => .inr ⟨rfl, h⟩, fun h => h.elim (fun h => absurd h (List.lt_irrefl _)) fun h => h.2⟩
theorem sort_q (R : QT) : ((R.map fun z => (V.ref z.1, z.2)).mergeSort (PySem.W.dataLe false fun z => dP2 z.2)).map (·.1) = qrefs (R.mergeSort fun p q => le3 (e2 p.2) (e2 q.2)) := by
  rw [p2_le (β := V × Int × Int) (fun z => z.2), ← List.map_mergeSort (l := R) (f := fun z : Addr × Int × Int => (V.ref z.1, z.2)) (r := fun p q : Addr × Int × Int => le3 (e2 p.2) (e2 q.2)) (s := fun p q : V × Int × Int => le3 (e2 p.2) (e2 q.2)) (fun _ _ _ _ => rfl), List.map_map]
  rfl
theorem p2_alike {β : Type} (f : β → Int × Int) (bs : List β) : PySem.W.AllAlike (bs.map fun b => dP2 (f b)) := PySem.W.AllAlike.of fun b b' => by simp [dP2, PySem.W.alike, PySem.W.alikeAll]
theorem p2_able {β : Type} (f : β → Int × Int) (bs : List β) : PySem.W.Sortable (bs.map fun b => dP2 (f b)) := PySem.W.Sortable.tuples fun b => ⟨_, _, rfl⟩
theorem p2_deep (p : Int × Int) : (dP2 p).depth ≤ 60 := by
  show max 0 (max 0 0) + 1 ≤ 60
  decide
/-- pairs ascending -/
def Asc2 (l : List (Int × Int)) : Prop := (l.map e2).Pairwise (fun p q => le3 p q = true)
theorem sort_q_is {R : QT} {l : List (Int × Int)} (hp : (R.map (·.2)).Perm l) (ha : Asc2 l) : (R.mergeSort fun p q => le3 (e2 p.2) (e2 q.2)).map (·.2) = l := by
  have h1 : ((R.mergeSort fun p q => le3 (e2 p.2) (e2 q.2)).map fun z => e2 z.2) = l.map e2 := by
    refine sorted3_uniq (((List.mergeSort_perm _ _).map _).trans ?_) ?_ ha
    · have := hp.map e2
      rw [List.map_map] at this
      exact this
    · rw [List.pairwise_map]
      exact List.pairwise_mergeSort (le := fun p q : Addr × Int × Int => le3 (e2 p.2) (e2 q.2)) (fun p q r => le3_tr (e2 p.2) (e2 q.2) (e2 r.2)) (fun p q => le3_tot (e2 p.2) (e2 q.2)) R
  have h2 := congrArg (List.map (fun e : E3 => e.2)) h1
  rw [List.map_map, List.map_map] at h2
  have i1 : ((fun e : E3 => e.2) ∘ fun z : Addr × Int × Int => e2 z.2) = fun z => z.2 := rfl
  have i2 : ((fun e : E3 => e.2) ∘ e2) = id := rfl
  rw [i1, i2, List.map_id] at h2
  exact h2
/-! ### where a word stands -/
def standsP (w : Str) (z : Str) (s : Nat) : Bool := decide (((TL.tl z).drop s).take w.length = TL.tl w)
def plcOf (w : Str) (q : Int × Str) : List (Int × Int) := ((List.range (q.2.length + 1)).filter (standsP w q.2)).map fun s : Nat => (q.1, (s : Int))
def plc (h : List (Int × Str)) (w : Str) : List (Int × Int) := h.flatMap (plcOf w)
theorem stands_le {w z : Str} {s : Nat} (h : standsP w z s = true) (hs : s ≤ z.length) : s + w.length ≤ z.length := by
  have e := congrArg List.length (of_decide_eq_true h)
  rw [List.length_take, List.length_drop] at e
  have e1 : (TL.tl z).length = z.length := rfl
  have e2 : (TL.tl w).length = w.length := rfl
  omega
theorem range_cut {n k : Nat} {p : Nat → Bool} (h : ∀ s, s ≤ n → p s = true → s + k ≤ n) : (List.range (n + 1)).filter p = (List.range (n + 1 - k)).filter p := by
  rcases Nat.le_total k (n + 1) with c | c
  · have e : n + 1 = (n + 1 - k) + k := by omega
    conv => lhs; rw [e, List.range_add, List.filter_append]
    have : ((List.range k).map (fun x => n + 1 - k + x)).filter p = [] := List.filter_eq_nil_iff.mpr fun x hx hp => by
      obtain ⟨y, hy, rfl⟩ := List.mem_map.mp hx
      have := List.mem_range.mp hy
      have := h _ (by omega) hp
      omega
    rw [this, List.append_nil]
  · rw [show n + 1 - k = 0 by omega]
    show _ = []
    refine List.filter_eq_nil_iff.mpr fun x hx hp => ?_
    have := List.mem_range.mp hx
    have := h x (by omega) hp
    omega
theorem plcOf_cut (w : Str) (q : Int × Str) : plcOf w q = ((List.range (q.2.length + 1 - w.length)).filter (standsP w q.2)).map fun s : Nat => (q.1, (s : Int)) := by
  unfold plcOf
  rw [range_cut fun s hs hp => stands_le hp hs]
theorem plc_snoc (h : List (Int × Str)) (q : Int × Str) (w : Str) : plc (h ++ [q]) w = plc h w ++ plcOf w q := by
  unfold plc
  rw [List.flatMap_append]
  simp
/-- an end begins with the word -/
def begP (w : Str) (e : E3) : Bool := decide ((TL.tl e.1).take w.length = TL.tl w)
theorem plc_ends (w : Str) : ∀ (h : List (Int × Str)), ((ends3 h).filter (begP w)).map (·.2) = plc h w
  | [] => rfl
  | q :: r => by
    have e : ends3 (q :: r) = endsOf q ++ ends3 r := rfl
    have e2 : plc (q :: r) w = plcOf w q ++ plc r w := rfl
    rw [e, e2, List.filter_append, List.map_append, plc_ends w r]
    congr 1
    unfold endsOf plcOf
    rw [List.filter_map, List.map_map]
    have : (begP w ∘ fun s : Nat => (suf q.2 s, q.1, (s : Int))) = standsP w q.2 := by
      funext s
      show decide ((TL.tl (suf q.2 s)).take w.length = TL.tl w) = decide _
      rw [suf_tl]
    rw [this]
    rfl
theorem plcOf_asc (w : Str) (q : Int × Str) : ((plcOf w q).map e2).Pairwise (fun a b => le3 a b = true) := by
  unfold plcOf
  rw [List.map_map, List.pairwise_map]
  refine (List.Pairwise.filter _ (List.pairwise_lt_range (n := q.2.length + 1))).imp fun {a b} l => ?_
  unfold le3
  simp only [Bool.not_eq_true', decide_eq_false_iff_not]
  rintro (z | ⟨_, z | ⟨_, z⟩⟩)
  · exact List.lt_irrefl _ z
  · have : q.1 < q.1 := z
    omega
  · have : (b : Int) < (a : Int) := z
    omega
theorem mem_plcOf {w : Str} {q : Int × Str} {x : Int × Int} (h : x ∈ plcOf w q) : x.1 = q.1 ∧ ∃ s : Nat, x.2 = s ∧ s ≤ q.2.length ∧ standsP w q.2 s = true := by
  unfold plcOf at h
  obtain ⟨s, hs, rfl⟩ := List.mem_map.mp h
  obtain ⟨h1, h2⟩ := List.mem_filter.mp hs
  exact ⟨rfl, s, rfl, by have := List.mem_range.mp h1; omega, h2⟩
theorem plc_asc (w : Str) : ∀ {h : List (Int × Str)}, (h.map (·.1)).Pairwise (· < ·) → Asc2 (plc h w)
  | [], _ => List.Pairwise.nil
  | q :: r, asc => by
    rw [List.map_cons, List.pairwise_cons] at asc
    have ih := plc_asc w asc.2
    show ((plcOf w q ++ plc r w).map e2).Pairwise _
    rw [List.map_append, List.pairwise_append]
    refine ⟨plcOf_asc w q, ih, fun a ha b hb => ?_⟩
    obtain ⟨x, hx, rfl⟩ := List.mem_map.mp ha
    obtain ⟨y, hy, rfl⟩ := List.mem_map.mp hb
    obtain ⟨t, ht, hy⟩ := List.mem_flatMap.mp hy
    have l := asc.1 t.1 (List.mem_map_of_mem ht)
    have l1 := (mem_plcOf hx).1
    have l2 := (mem_plcOf hy).1
    unfold le3
    simp only [Bool.not_eq_true', decide_eq_false_iff_not]
    rintro (z | ⟨_, z | ⟨z, _⟩⟩)
    · exact List.lt_irrefl _ z
    · have : y.1 < x.1 := z
      omega
    · have : y.1 = x.1 := z
      omega
/-! ### the part of the order in a word's range -/
theorem anti_filter {α : Type} {p : α → Bool} : ∀ {E : List α}, E.Pairwise (fun a b => p b = true → p a = true) → E = E.filter p ++ E.filter fun x => !p x
  | [], _ => rfl
  | x :: E, h => by
    rw [List.pairwise_cons] at h
    cases c : p x with
    | true =>
      rw [List.filter_cons_of_pos c, List.filter_cons_of_neg (by rw [c]; decide), List.cons_append, ← anti_filter h.2]
    | false =>
      have no : ∀ y ∈ x :: E, p y = false := fun y hy => by
        rcases List.mem_cons.mp hy with e | m
        · rw [e]; exact c
        · cases d : p y with
          | false => rfl
          | true => rw [h.1 y m d] at c; cases c
      rw [List.filter_eq_nil_iff.mpr fun y hy => by rw [no y hy]; decide, List.nil_append]
      exact (List.filter_eq_self.mpr fun y hy => by rw [no y hy]; rfl).symm
theorem filter_take {α : Type} {p : α → Bool} {E : List α} (h : E.Pairwise (fun a b => p b = true → p a = true)) : E.take (E.filter p).length = E.filter p ∧ E.drop (E.filter p).length = E.filter fun x => !p x := by
  have e := anti_filter h
  generalize E.filter p = A at e ⊢
  generalize (E.filter fun x => !p x) = B at e ⊢
  subst e
  exact ⟨List.take_left, List.drop_left⟩
theorem rng_cut {E : List E3} (pw : E.Pairwise (fun p q => le3 p q = true)) (w : Str) : (E.drop (rFirst w E)).take (rMany w E) = E.filter (begP w) ∧ E.take (rFirst w E) = E.filter (prW w false) ∧ (E.drop (rFirst w E + rMany w E)) = E.filter (fun e => !prW w true e) := by
  have a1 := filter_take (p := prW w false) (pw.imp fun {a b} h => prW_mono h)
  rw [prW_f] at a1
  have a2 := filter_take (p := prW w true) (pw.imp fun {a b} h => prW_mono h)
  rw [prW_t] at a2
  have m : ((E.filter fun x => !prW w false x).filter (prW w true)) = E.filter (begP w) := by
    rw [List.filter_filter]
    congr 1
    funext e
    unfold prW begP
    cases c : decide ((TL.tl e.1).take w.length = TL.tl w) with
    | true =>
      rw [decide_eq_false (take_eq_not_lt (of_decide_eq_true c))]
      rfl
    | false =>
      cases decide (TL.tl e.1 < TL.tl w) <;> rfl
  have a3 := filter_take (p := prW w true) (E := E.filter fun x => !prW w false x) ((pw.filter _).imp fun {a b} h => prW_mono h)
  rw [m] at a3
  have l : (E.filter (begP w)).length = rMany w E := rfl
  rw [l] at a3
  refine ⟨?_, a1.1, a2.2⟩
  rw [a1.2]
  exact a3.1
theorem comm_take : ∀ (n : Nat) (x y : List Nat), n ≤ comm x y → x.take n = y.take n
  | 0, _, _, _ => by simp
  | n + 1, [], y, h => by simp [comm] at h
  | n + 1, _ :: _, [], h => by simp [comm] at h
  | n + 1, a :: x, b :: y, h => by
    unfold comm at h
    by_cases e : a = b
    · rw [if_pos e] at h
      rw [List.take_succ_cons, List.take_succ_cons, e, comm_take n x y (by omega)]
    · rw [if_neg e] at h
      omega
theorem take_comm : ∀ (n : Nat) (x y : List Nat), n ≤ x.length → n ≤ y.length → x.take n = y.take n → n ≤ comm x y
  | 0, _, _, _, _, _ => Nat.zero_le _
  | n + 1, [], y, h, _, _ => by simp at h
  | n + 1, _ :: _, [], _, h, _ => by simp at h
  | n + 1, a :: x, b :: y, h1, h2, e => by
    rw [List.take_succ_cons, List.take_succ_cons] at e
    unfold comm
    rw [if_pos (List.cons.inj e).1]
    have := take_comm n x y (by simpa using h1) (by simpa using h2) (List.cons.inj e).2
    omega
/-- all places of the word: a new list -/
def spPlaces (K : PySem.W.Frag) : Sp := fun vs H Q _ => ∃ (a : Addr) (L : PL) (wd : Str), vs = [.ref a, .str wd] ∧ HsAt K H a L ∧ L.length ≤ 500 ∧ (∀ q ∈ L, q.2.2.length ≤ 100) ∧ wd.length ≤ 1000 ∧
  ∀ (l : Addr) (R : QT) (H' : Hp), Same H H' → H l = none → H' l = some (.lst (qrefs R)) → QAt K H' R → R.map (·.2) = plc (L.map (·.2)) wd → Q (.ref l) H'
theorem plcOf_len (w : Str) (q : Int × Str) : (plcOf w q).length ≤ q.2.length + 1 := by
  unfold plcOf
  rw [List.length_map]
  refine Nat.le_trans (List.length_filter_le _ _) ?_
  rw [List.length_range]
  exact Nat.le_refl _
theorem plc_len {m : Nat} {w : Str} : ∀ {h : List (Int × Str)}, (∀ q ∈ h, q.2.length ≤ m) → (plc h w).length ≤ (m + 1) * h.length
  | [], _ => Nat.zero_le _
  | q :: r, a => by
    have e : plc (q :: r) w = plcOf w q ++ plc r w := rfl
    rw [e, List.length_append, List.length_cons, Nat.mul_add]
    have := a q (List.mem_cons_self ..)
    have := plcOf_len w q
    have := plc_len (w := w) fun x hx => a x (List.mem_cons_of_mem _ hx)
    omega
end SH
set_option Elab.async false
set_option linter.all false
set_option maxRecDepth 100000
set_option maxHeartbeats 4000000
/-! < of any data -/
namespace SH
open PySem PySem.Spec PyProof.Rows L2
def rLtD (K : PySem.W.Frag) : V → V → Hp → VK → Prop := fun x y H Q => ∃ d e, Dp K H x d ∧ Dp K H y e ∧ PySem.W.alike d e = true ∧ d ≠ .none ∧ d.depth ≤ 60 ∧ Q (.bl (PySem.W.dataLt d e)) H
theorem op_ltD {X : Cx} (hu : X.A.units + 64 < cLine) : OpR X (compareOp .Lt) (rLtD X.K) := by
  intro pins s σ H x y v u Q I rx ry h
  obtain ⟨d, e, hd, he, al, hn, hdp, q⟩ := h
  obtain ⟨as, r1⟩ := Dp.reads I d x v hd rx
  obtain ⟨bs, r2⟩ := Dp.reads I e y u he ry
  exact PySem.W.lt_data r1 r2 al hn (by omega) ⟨.bl _, H, I, rfl, q⟩
theorem op_ltDK {X : Cx} {K : PySem.W.Frag} (hu : X.A.units + 64 < cLine) (h : X.K = K := by rfl) : OpR X (compareOp .Lt) (rLtD K) := h ▸ op_ltD hu
theorem sl_tupK {X : Cx} {K : PySem.W.Frag} (h : X.K = K := by rfl) : SlR X (rSlT K) := h ▸ sl_tup
end SH
set_option Elab.async false
set_option linter.all false
set_option maxRecDepth 100000
set_option maxHeartbeats 4000000
/-! houses with a pair more or less -/
namespace SH
open PySem PySem.Spec PyProof.Rows L2
def spIsLetter : Sp := fun vs H Q _ => ∃ c : Nat, vs = [.str ⟨#[c]⟩] ∧ Q (.bl (okc c)) H
def spIsText : Sp := fun vs H Q _ => ∃ z : Str, vs = [.str z] ∧ z.length ≤ 1000 ∧ ∀ H', Same H H' → Q (.bl (isTxt z)) H'
def spHasNumber (K : PySem.W.Frag) : Sp := fun vs H Q _ => ∃ (a : Addr) (L : PL) (n : Int), vs = [.ref a, .int n] ∧ HsAt K H a L ∧ L.length ≤ 1000 ∧ ∀ H', Same H H' → Q (.bl (decide (n ∈ L.map fun q => q.2.1))) H'
theorem inV_ints (n : Int) (l : List Int) : inV (.int n) (l.map V.int) = decide (n ∈ l) := by
  unfold inV
  induction l with
  | nil => simp
  | cons x r ih =>
    rw [List.map_cons, List.any_cons, ih]
    show (x == n || decide (n ∈ r)) = decide (n ∈ x :: r)
    by_cases h : x = n
    · subst h
      simp
    · have h2 : (x == n) = false := by simpa using h
      have h3 : ¬ n = x := fun z => h z.symm
      rw [h2]
      simp [h3]
theorem refs_at {L : PL} {i : Nat} {x : V} (h : (refs L)[i]? = some x) : ∃ t, L[i]? = some t ∧ t ∈ L ∧ x = .ref t.1 := by
  unfold refs at h
  rw [List.getElem?_map] at h
  cases e : L[i]? with
  | none => rw [e] at h; cases h
  | some t =>
    rw [e] at h
    cases h
    exact ⟨t, rfl, List.mem_of_getElem? e, rfl⟩
theorem drop_at {α : Type} {l : List α} {i : Nat} {x : α} (h : l[i]? = some x) : l.drop i = x :: l.drop (i + 1) := by
  obtain ⟨hi, e⟩ := List.getElem?_eq_some_iff.mp h
  rw [List.drop_eq_getElem_cons hi, e]
/-- a new house is handed back: a new list p of pairs, as pure data h -/
def NewHs (K : PySem.W.Frag) (Q : VK) (H : Hp) (h : List (Int × Str)) : Prop := ∀ (p : Addr) (L' : PL) (H' : Hp), Same H H' → H p = none → H' p = some (.lst (refs L')) → PairsAt K H' L' → L'.map (·.2) = h → Q (.ref p) H'
/-- with a pair more, in its place -/
def ins (n : Int) (z : Str) (h : List (Int × Str)) : List (Int × Str) := h.filter (fun q => decide (q.1 < n)) ++ [(n, z)] ++ h.filter (fun q => decide (n < q.1))
theorem asc_uniq : ∀ {l m : List (Int × Str)}, l.Perm m → l.Pairwise (fun q r => q.1 < r.1) → m.Pairwise (fun q r => q.1 < r.1) → l = m
  | [], m, p, _, _ => (List.Perm.eq_nil p.symm).symm
  | x :: l, [], p, _, _ => absurd p.length_eq (by simp)
  | x :: l, y :: m, p, hl, hm => by
    rw [List.pairwise_cons] at hl hm
    have e : x = y := by
      rcases List.mem_cons.mp (p.mem_iff.mp (List.mem_cons_self ..)) with e | hx
      · exact e
      · rcases List.mem_cons.mp (p.mem_iff.mpr (List.mem_cons_self ..)) with e | hy
        · exact e.symm
        · have a := hm.1 x hx
          have b := hl.1 y hy
          omega
    subst e
    rw [asc_uniq p.cons_inv hl.2 hm.2]
theorem ins_perm {n : Int} {z : Str} : ∀ {h : List (Int × Str)}, n ∉ h.map (·.1) → (ins n z h).Perm (h ++ [(n, z)])
  | [], _ => List.Perm.refl _
  | q :: r, hn => by
    rw [List.map_cons, List.mem_cons, not_or] at hn
    have ih := ins_perm (z := z) hn.2
    unfold ins at ih ⊢
    by_cases h1 : q.1 < n
    · rw [List.filter_cons_of_pos (by simpa using h1), List.filter_cons_of_neg (by simp; omega)]
      exact ih.cons q
    · rw [List.filter_cons_of_neg (by simpa using h1), List.filter_cons_of_pos (by simp; omega)]
      have p1 := List.perm_middle (a := q) (l₁ := r.filter (fun q => decide (q.1 < n)) ++ [(n, z)]) (l₂ := r.filter (fun q => decide (n < q.1)))
      exact p1.trans (ih.cons q)
theorem ins_asc {n : Int} {z : Str} {h : List (Int × Str)} (a : h.Pairwise (fun q r => q.1 < r.1)) : (ins n z h).Pairwise (fun q r => q.1 < r.1) := by
  unfold ins
  rw [List.pairwise_append, List.pairwise_append]
  refine ⟨⟨a.filter _, by simp, fun x hx y hy => ?_⟩, a.filter _, fun x hx y hy => ?_⟩
  · have h1 := (List.mem_filter.mp hx).2
    rw [List.mem_singleton.mp hy]
    simpa using h1
  · have h2 := (List.mem_filter.mp hy).2
    have h2' : n < y.1 := by simpa using h2
    rcases List.mem_append.mp hx with m | m
    · have h1 := (List.mem_filter.mp m).2
      have h1' : x.1 < n := by simpa using h1
      omega
    · rw [List.mem_singleton.mp m]
      exact h2'
theorem IsHs.pw {m : Nat} {h : List (Int × Str)} (a : IsHs m h) : h.Pairwise (fun q r => q.1 < r.1) := List.pairwise_map.mp a.asc
end SH
set_option Elab.async false
set_option linter.all false
set_option maxRecDepth 100000
set_option maxHeartbeats 4000000
/-! the order with a text more, and without one -/
namespace SH
open PySem PySem.Spec PyProof.Rows L2
/-- the ends of a text in order -/
def fresh (q : Int × Str) : List E3 := (endsOf q).mergeSort le3
theorem fresh_pw (q : Int × Str) : (fresh q).Pairwise (fun a b => le3 a b = true) := sort3_pw _
theorem ends3_perm {h k : List (Int × Str)} (p : h.Perm k) : (ends3 h).Perm (ends3 k) := p.flatMap_right _
theorem mrg_is {h k : List (Int × Str)} {q : Int × Str} (p : k.Perm (h ++ [q])) : List.merge (ordE h) (fresh q) le3 = ordE k := by
  refine sorted3_uniq ?_ (List.pairwise_merge (fun p q r => le3_tr p q r) (fun p q => le3_tot p q) _ _ (sort3_pw _) (fresh_pw q)) (ordE_pw k)
  refine List.Perm.trans (List.merge_perm_append le3) (((List.mergeSort_perm _ _).append (List.mergeSort_perm _ _)).trans ?_)
  rw [← ends3_snoc]
  exact (ends3_perm p.symm).trans (List.mergeSort_perm _ _).symm
theorem mrg_lt {e f : E3} {E F : List E3} (h : lex3 f e) : List.merge (e :: E) (f :: F) le3 = f :: List.merge (e :: E) F le3 := by
  rw [List.cons_merge_cons, if_neg]
  unfold le3
  rw [decide_eq_true h]
  decide
theorem mrg_ge {e f : E3} {E F : List E3} (h : ¬ lex3 f e) : List.merge (e :: E) (f :: F) le3 = e :: List.merge E (f :: F) le3 := by
  rw [List.cons_merge_cons, if_pos]
  unfold le3
  rw [decide_eq_false h]
  rfl
theorem mrg_nil (e : E3) (E : List E3) : List.merge (e :: E) [] le3 = e :: List.merge E [] le3 := by
  simp
/-- the order without the ends of a text -/
theorem ordE_filter {h : List (Int × Str)} (n : Int) : (ordE h).filter (fun e => decide (e.2.1 ≠ n)) = ordE (h.filter fun q => decide (q.1 ≠ n)) := by
  refine sorted3_uniq (((List.mergeSort_perm _ _).filter _).trans ?_) ((ordE_pw h).filter _) (ordE_pw _)
  refine List.Perm.trans ?_ (List.mergeSort_perm _ _).symm
  have : (ends3 h).filter (fun e => decide (e.2.1 ≠ n)) = ends3 (h.filter fun q => decide (q.1 ≠ n)) := by
    induction h with
    | nil => rfl
    | cons q r ih =>
      have e : ends3 (q :: r) = endsOf q ++ ends3 r := rfl
      rw [e, List.filter_append, ih]
      by_cases c : q.1 ≠ n
      · rw [List.filter_cons_of_pos (by simpa using c)]
        have e2 : ends3 (q :: r.filter fun q => decide (q.1 ≠ n)) = endsOf q ++ ends3 (r.filter fun q => decide (q.1 ≠ n)) := rfl
        rw [e2]
        congr 1
        refine List.filter_eq_self.mpr fun x hx => ?_
        obtain ⟨s, _, rfl⟩ := mem_endsOf.mp hx
        exact decide_eq_true c
      · rw [List.filter_cons_of_neg (by simpa using c)]
        have : (endsOf q).filter (fun e => decide (e.2.1 ≠ n)) = [] := List.filter_eq_nil_iff.mpr fun x hx => by
          obtain ⟨s, _, rfl⟩ := mem_endsOf.mp hx
          simpa using c
        rw [this, List.nil_append]
  rw [this]
theorem ins_mem {n : Int} {z : Str} {h : List (Int × Str)} (hn : n ∉ h.map (·.1)) {q : Int × Str} (hq : q ∈ h) : q ∈ ins n z h := (ins_perm hn).mem_iff.mpr (List.mem_append_left _ hq)
theorem cut_1 (n s : Int) (x : Str) : cutV [V.str x, .int n, .int s] (some 1) none = [.int n, .int s] := rfl
theorem ins_len {n : Int} {z : Str} {h : List (Int × Str)} (hn : n ∉ h.map (·.1)) : (ins n z h).length = h.length + 1 := by
  rw [(ins_perm hn).length_eq, List.length_append]
  rfl
end SH
set_option Elab.async false
set_option linter.all false
set_option maxRecDepth 100000
set_option maxHeartbeats 4000000
/-! what is told: a tag and a thing -/
namespace SH
open PySem PySem.Spec PyProof.Rows L2
/-- the texts that are tried: letters, or a newline among them -/
def Tryable (z : Str) : Prop := z.length ≤ 1000 ∧ isTxt z = (decide (z.length ≤ 40) && !decide (10 ∈ z.cps.toList)) ∧ PyData.strOk z = true
theorem tryable_let {z : Str} (h : IsLet z) (hl : z.length ≤ 40) : Tryable z := by
  refine ⟨Nat.le_trans hl (by decide), ?_, let_ok h⟩
  have e1 : isTxt z = true := by
    unfold isTxt
    rw [decide_eq_true hl]
    exact h
  have e2 : decide (10 ∈ z.cps.toList) = false := decide_eq_false fun m => absurd (List.all_eq_true.mp h 10 m) (by decide)
  rw [e1, e2, decide_eq_true hl]
  rfl
theorem tryable_big {z : Str} (h : IsLet z) (hl : z.length ≤ 1000) (hg : 40 < z.length) : Tryable z := by
  refine ⟨hl, ?_, let_ok h⟩
  rw [isTxt_long hg, decide_eq_false (by omega)]
  rfl
theorem tryable_any {z : Str} (h : IsLet z) (hl : z.length ≤ 1000) : Tryable z := by
  rcases Nat.lt_or_ge 40 z.length with c | c
  · exact tryable_big h hl c
  · exact tryable_let h c
theorem tryable_nl {z : Str} (h : IsLet z) (hl : z.length ≤ 900) : Tryable (z ++ "\n") := by
  have e : (z ++ "\n" : Str).cps.toList = z.cps.toList ++ [10] := TL.tl_append z "\n"
  have m : 10 ∈ (z ++ "\n" : Str).cps.toList := by rw [e]; simp
  have l : (z ++ "\n" : Str).length = z.length + 1 := len_app z "\n"
  refine ⟨by omega, ?_, ?_⟩
  · rw [isTxt_line m, decide_eq_true m]
    simp
  · unfold PyData.strOk
    rw [← Array.all_toList, e]
    refine List.all_eq_true.mpr fun c hc => ?_
    rcases List.mem_append.mp hc with m | m
    · have := okc_lt (List.all_eq_true.mp h c m)
      exact decide_eq_true (by omega)
    · rw [List.mem_singleton.mp m]
      rfl
theorem join_let {n : Nat} : IsLet (Txt.join "" (List.replicate n (⟨#[97]⟩ : Str))) := List.all_eq_true.mpr fun c hc => by rw [join_mem hc]; rfl
def Due (K : PySem.W.Frag) (H' : Hp) (v : V) (p : Str × PyData) : Prop := ∃ (t : Addr) (x : V), v = .ref t ∧ H' t = some (.tup [.str p.1, x]) ∧ Dp K H' x p.2
theorem Due.of {K : PySem.W.Frag} {H' : Hp} {v : V} {p q : Str × PyData} (e : p = q) (h : Due K H' v p) : Due K H' v q := e ▸ h
theorem Due.dp {K : PySem.W.Frag} {H' : Hp} {v : V} {p : Str × PyData} (h : Due K H' v p) : Dp K H' v (dT p) := by
  obtain ⟨t, x, rfl, h1, h2⟩ := h
  exact .tup (.inl (.inl h1)) (.cons (.str _) (.cons h2 .nil))
theorem Due.same {K : PySem.W.Frag} {H H' : Hp} {v : V} {p : Str × PyData} (s : Same H H') (h : Due K H v p) : Due K H' v p := by
  obtain ⟨t, x, rfl, h1, h2⟩ := h
  exact ⟨t, x, rfl, s _ _ h1, dp_same s h2⟩
theorem dT_ok {p : Str × PyData} (h1 : PyData.strOk p.1 = true) (h2 : Okd p.2) : SeqAt.shaped (dT p) = true ∧ PyData.eqv (dT p) (dT p) = true := dT_shaped h1 h2.1 h2.2
end SH
set_option Elab.async false
set_option linter.all false
set_option maxRecDepth 100000
set_option maxHeartbeats 4000000
/-! xs[i] += e -/
namespace SH
open PySem PySem.Spec PyProof.Rows L2
theorem pget_list {X : Cx} : PGet X (rIxL X.K) := by
  intro pins s σ H x y v u Q I rx ry h
  obtain ⟨p, xs, i, z, rfl, rfl, hq, he, q⟩ := h
  cases rx
  obtain ⟨t, rfl⟩ := ry
  obtain ⟨its, r, pl, hz⟩ := I.list hq
  obtain ⟨j, h1, h2, h3, h4, h5⟩ := atI_get he
  obtain ⟨w, ew, rw'⟩ := r.get h2
  have hl := r.length
  have hn := line63
  have fin : EP X pins σ Q w s := ⟨z, H, I, rw', q⟩
  by_cases h0 : 0 ≤ i
  · have hj : i.toNat = j := by
      rw [seqIndex_of h0 h5] at h1
      exact Option.some.inj h1
    exact wpAny_getItem_list pl.isList h0 (by omega) (by rw [hj]; simpa using ew) fin
  · have hj : (i + (its.toArray.size : Int)).toNat = j := by
      rw [seqIndex_neg (by omega) h4] at h1
      rw [List.size_toArray, ← hl]
      exact Option.some.inj h1
    exact wpAny_getItem_list_neg pl.isList (by omega) (by rw [List.size_toArray] <;> omega) (by omega) (by rw [hj]; simpa using ew) fin
theorem pgetK {X : Cx} {K : PySem.W.Frag} (h : X.K = K := by rfl) : PGet X (rIxL K) := h ▸ pget_list
theorem call_len_seqK {X : Cx} {K : PySem.W.Frag} (h : X.K = K := by rfl) : CallR X (.builtin "len") (fun xs H Q => ∃ p ys, xs = [.ref p] ∧ (SqL K H p ys ∨ SqT K H p ys) ∧ Q (.int ys.length) H) := h ▸ call_len_seq
theorem call_list_ofK {X : Cx} {K : PySem.W.Frag} (h : X.K = K := by rfl) : CallR X (.type "list") (fun xs H Q => ∃ p ys, xs = [.ref p] ∧ (SqL K H p ys ∨ SqT K H p ys) ∧ ∀ l, H l = none → Q (.ref l) (upd H l (.lst ys))) := h ▸ call_list_of
theorem op_notIn_seqK {X : Cx} {K : PySem.W.Frag} (h : X.K = K := by rfl) : OpR X (compareOp .NotIn) (rIn K true) := h ▸ op_notIn_seq
end SH
set_option Elab.async false
set_option linter.all false
set_option maxRecDepth 100000
set_option maxHeartbeats 4000000
/-! slices of texts as lists of signs; letters joined -/
namespace SH
open PySem PySem.Spec PyProof.Rows L2
theorem tlen (z : Str) : (TL.tl z).length = z.length := (TL.len_tl z).symm
theorem cuts_take (z : Str) (k : Nat) : TL.tl (cutS z none (some (k : Int))) = (TL.tl z).take k := by
  show (z.cps.toList.drop (HT.sIx z.length 0 none)).take (HT.sIx z.length z.length (some (k : Int)) - HT.sIx z.length 0 none) = _
  rw [HT.sIx_none, HT.sIx_nat, List.drop_zero, Nat.sub_zero]
  have hz : z.cps.toList.length = z.length := rfl
  rcases Nat.le_total k z.length with h | h
  · rw [Nat.min_eq_left h]
  · rw [Nat.min_eq_right h, List.take_of_length_le (by rw [hz]; exact Nat.le_refl _)]
    exact (List.take_of_length_le (by rw [tlen]; exact h)).symm
theorem cuts_drop (z : Str) (k : Nat) : TL.tl (cutS z (some (k : Int)) none) = (TL.tl z).drop k := by
  show (z.cps.toList.drop (HT.sIx z.length 0 (some (k : Int)))).take (HT.sIx z.length z.length none - HT.sIx z.length 0 (some (k : Int))) = _
  rw [HT.sIx_none, HT.sIx_nat]
  have hz : z.cps.toList.length = z.length := rfl
  rcases Nat.le_total k z.length with h | h
  · rw [Nat.min_eq_left h, List.take_of_length_le (by rw [List.length_drop, hz]; exact Nat.le_refl _)]
  · rw [Nat.min_eq_right h, List.drop_of_length_le (by rw [hz]; exact Nat.le_refl _), List.take_nil]
    exact (List.drop_of_length_le (by rw [tlen]; exact h)).symm
theorem joinL_ones : ∀ cs : List Nat, TL.joinL [] (cs.map fun c => [c]) = cs
  | [] => rfl
  | [c] => rfl
  | c :: d :: r => by
    show [c] ++ ([] ++ TL.joinL [] ((d :: r).map fun c => [c])) = _
    rw [joinL_ones (d :: r)]
    rfl
theorem tl_join_ones (cs : List Nat) : TL.tl (Txt.join "" (cs.map fun c => (⟨#[c]⟩ : Str))) = cs := by
  have e : (Txt.join "" (cs.map fun c => (⟨#[c]⟩ : Str))).cps.toList = TL.joinL [] (cs.map fun c => [c]) := by
    rw [TL.join_eq]
    refine (TL.tl_join "" _).trans ?_
    rw [List.map_map]
    rfl
  rw [joinL_ones] at e
  exact e
theorem cut_let {z : Str} (h : IsLet z) (lo hi : Option Int) : IsLet (cutS z lo hi) := List.all_eq_true.mpr fun c hc => List.all_eq_true.mp h c (List.mem_of_mem_drop (List.mem_of_mem_take (show c ∈ (z.cps.toList.drop _).take _ from hc)))
end SH
set_option Elab.async false
set_option linter.all false
set_option maxRecDepth 100000
set_option maxHeartbeats 4000000
/-! the different stretches, counted by the order and its commons; the least of the commons -/
namespace SH
open PySem PySem.Spec PyProof.Rows L2
/-! ### tables whose keys are what has been put -/
section
variable {κ : Type} [DecidableEq κ]
theorem keys_putK (kvs : List (κ × V)) (k : κ) (v : V) : (putK kvs k v).map (·.1) = if k ∈ kvs.map (·.1) then kvs.map (·.1) else kvs.map (·.1) ++ [k] := by
  unfold putK
  by_cases h : k ∈ kvs.map (·.1)
  · rw [if_pos h, if_pos]
    · rw [List.map_map]
      refine List.map_congr_left fun x _ => ?_
      show (if x.1 = k then (x.1, v) else x).1 = x.1
      split <;> rfl
    · obtain ⟨x, hx, e⟩ := List.mem_map.mp h
      exact List.any_eq_true.mpr ⟨x, hx, decide_eq_true e⟩
  · rw [if_neg h, if_neg, List.map_append]
    · rfl
    · intro z
      obtain ⟨x, hx, e⟩ := List.any_eq_true.mp z
      exact h (List.mem_map.mpr ⟨x, hx, of_decide_eq_true e⟩)
theorem keys_put_nd {kvs : List (κ × V)} {k : κ} {v : V} (h : (kvs.map (·.1)).Nodup) : ((putK kvs k v).map (·.1)).Nodup := by
  rw [keys_putK]
  split
  · exact h
  · rename_i n
    rw [List.nodup_append]
    exact ⟨h, by simp, fun a ha b hb e => by rw [List.mem_singleton.mp hb] at e; exact n (e ▸ ha)⟩
theorem keys_put_mem {kvs : List (κ × V)} {k j : κ} {v : V} : j ∈ (putK kvs k v).map (·.1) ↔ j ∈ kvs.map (·.1) ∨ j = k := by
  rw [keys_putK]
  split
  · rename_i h
    exact ⟨.inl, fun z => z.elim id fun e => e ▸ h⟩
  · rw [List.mem_append, List.mem_singleton]
end
theorem nd_len {α : Type} [DecidableEq α] {l m : List α} (h1 : l.Nodup) (h2 : m.Nodup) (h : ∀ x, x ∈ l ↔ x ∈ m) : l.length = m.length :=
  Nat.le_antisymm (List.Nodup.length_le_of_subset h1 fun x hx => (h x).mp hx) (List.Nodup.length_le_of_subset h2 fun x hx => (h x).mpr hx)
/-! ### beginnings -/
def isPre (p x : List Nat) : Prop := p ≠ [] ∧ x.take p.length = p
theorem isPre_len {p x : List Nat} (h : isPre p x) : p.length ≤ x.length := by
  have := congrArg List.length h.2
  rw [List.length_take] at this
  omega
/-- what the first and the last begin with, all between do -/
theorem between {x y z p : List Nat} (h1 : ¬ y < x) (h2 : ¬ z < y) (a : x.take p.length = p) (b : z.take p.length = p) : y.take p.length = p := by
  have c1 := nl_take p.length x y h1
  have c2 := nl_take p.length y z h2
  rw [a] at c1
  rw [b] at c2
  exact List.le_antisymm (List.not_lt.mp c2) (List.not_lt.mp c1)
def newP (a x : List Nat) : List (List Nat) := (List.range (x.length - comm a x)).map fun k => x.take (comm a x + k + 1)
def allP : List Nat → List (List Nat) → List (List Nat)
  | _, [] => []
  | a, x :: r => newP a x ++ allP x r
theorem mem_newP {a x p : List Nat} : p ∈ newP a x ↔ isPre p x ∧ ¬ isPre p a := by
  have cl := comm_le a x
  unfold newP
  rw [List.mem_map]
  constructor
  · rintro ⟨k, hk, rfl⟩
    have hk := List.mem_range.mp hk
    have l : (x.take (comm a x + k + 1)).length = comm a x + k + 1 := by rw [List.length_take]; omega
    refine ⟨⟨fun z => ?_, by rw [l]⟩, fun z => ?_⟩
    · rw [z] at l
      simp at l
    · have z2 := z.2
      rw [l] at z2
      have ll := congrArg List.length z2
      rw [l, List.length_take] at ll
      have := take_comm (comm a x + k + 1) a x (by omega) (by omega) z2
      omega
  · rintro ⟨h1, h2⟩
    have l1 := isPre_len h1
    have p0 : 0 < p.length := List.length_pos_iff.mpr h1.1
    have lt : comm a x < p.length := by
      rcases Nat.lt_or_ge (comm a x) p.length with c | c
      · exact c
      · have := comm_take _ _ _ c
        exact absurd ⟨h1.1, by rw [this]; exact h1.2⟩ h2
    refine ⟨p.length - comm a x - 1, List.mem_range.mpr (by omega), ?_⟩
    rw [show comm a x + (p.length - comm a x - 1) + 1 = p.length by omega]
    exact h1.2
theorem newP_nd (a x : List Nat) : (newP a x).Nodup := by
  have cl := comm_le a x
  unfold newP
  rw [List.Nodup, List.pairwise_map]
  refine (List.pairwise_lt_range (n := x.length - comm a x)).imp_of_mem fun {i j} hi hj l e => ?_
  have hi := List.mem_range.mp hi
  have hj := List.mem_range.mp hj
  have := congrArg List.length e
  rw [List.length_take, List.length_take] at this
  omega
theorem mem_allP : ∀ {a : List Nat} {W : List (List Nat)} {p : List Nat}, (a :: W).Pairwise (fun x y => ¬ y < x) → (p ∈ allP a W ↔ (∃ x ∈ W, isPre p x) ∧ ¬ isPre p a)
  | a, [], p, _ => by simp [allP]
  | a, x :: r, p, pw => by
    rw [List.pairwise_cons] at pw
    have ih := mem_allP (p := p) pw.2
    have pw2 := pw.2
    rw [List.pairwise_cons] at pw2
    show p ∈ newP a x ++ allP x r ↔ _
    rw [List.mem_append, mem_newP, ih]
    constructor
    · rintro (⟨h1, h2⟩ | ⟨⟨y, hy, h1⟩, h2⟩)
      · exact ⟨⟨x, List.mem_cons_self .., h1⟩, h2⟩
      · refine ⟨⟨y, List.mem_cons_of_mem _ hy, h1⟩, fun z => h2 ⟨h1.1, ?_⟩⟩
        exact between (pw.1 x (List.mem_cons_self ..)) (pw2.1 y hy) z.2 h1.2
    · rintro ⟨⟨y, hy, h1⟩, h2⟩
      by_cases c : isPre p x
      · exact .inl ⟨c, h2⟩
      · rcases List.mem_cons.mp hy with e | m
        · rw [e] at h1
          exact absurd h1 c
        · exact .inr ⟨⟨y, m, h1⟩, c⟩
theorem allP_nd : ∀ {a : List Nat} {W : List (List Nat)}, (a :: W).Pairwise (fun x y => ¬ y < x) → (allP a W).Nodup
  | _, [], _ => List.nodup_nil
  | a, x :: r, pw => by
    rw [List.pairwise_cons] at pw
    show (newP a x ++ allP x r).Nodup
    rw [List.nodup_append]
    refine ⟨newP_nd a x, allP_nd pw.2, fun p h1 q h2 e => ?_⟩
    subst e
    exact ((mem_allP pw.2).mp h2).2 (mem_newP.mp h1).1
def cmL : List Nat → List (List Nat) → List Int
  | _, [] => []
  | a, x :: r => (comm a x : Nat) :: cmL x r
theorem allP_len : ∀ (a : List Nat) (W : List (List Nat)), ((allP a W).length : Int) = (W.map fun x => (x.length : Int)).sum - (cmL a W).sum
  | _, [] => rfl
  | a, x :: r => by
    have cl := comm_le a x
    have ih := allP_len x r
    show ((newP a x ++ allP x r).length : Int) = ((x.length : Int) + (r.map fun x => (x.length : Int)).sum) - (((comm a x : Nat) : Int) + (cmL x r).sum)
    have l : (newP a x).length = x.length - comm a x := by unfold newP; rw [List.length_map, List.length_range]
    rw [List.length_append, l, Int.natCast_add, ih]
    omega
theorem cmL_at : ∀ (W : List (List Nat)) (a : List Nat) (k : Nat), (cmL a W)[k]? = (W[k]?).map fun x => ((comm (if k = 0 then a else (W[k - 1]?).getD []) x : Nat) : Int)
  | [], _, _ => by simp [cmL]
  | x :: r, a, 0 => rfl
  | x :: r, a, k + 1 => by
    show (cmL x r)[k]? = _
    rw [cmL_at r x k]
    show (r[k]?).map _ = (r[k]?).map _
    congr 1
    funext y
    cases k with
    | zero => rfl
    | succ k => rfl
theorem letsAt_map (E : List E3) (k : Nat) : letsAt E k = ((E.map fun e => TL.tl e.1)[k]?).getD [] := by
  unfold letsAt
  rw [List.getElem?_map]
theorem cmsE_cmL (E : List E3) : cmsE E = cmL [] (E.map fun e => TL.tl e.1) := by
  refine List.ext_getElem? fun k => ?_
  rw [cmL_at, show (E.map fun e => TL.tl e.1)[k]? = (E[k]?).map fun e => TL.tl e.1 from List.getElem?_map ..]
  unfold cmsE
  rw [List.getElem?_map]
  rcases Nat.lt_or_ge k E.length with h | h
  · rw [List.getElem?_range h, List.getElem?_eq_getElem h]
    show some _ = some _
    congr 1
    by_cases c : k = 0
    · rw [if_pos c]
      show (if k = 0 then (0 : Int) else cmAt E (k - 1)) = ((comm [] _ : Nat) : Int)
      rw [if_pos c]
      simp [comm]
    · rw [if_neg c]
      show (if k = 0 then (0 : Int) else cmAt E (k - 1)) = ((comm _ _ : Nat) : Int)
      rw [if_neg c]
      unfold cmAt
      rw [letsAt_map, show k - 1 + 1 = k by omega, letsAt_eq (List.getElem?_eq_getElem h)]
  · rw [List.getElem?_eq_none (by rw [List.length_range]; exact h), List.getElem?_eq_none h]
    rfl
/-- a stretch of the house -/
def isStr (h : List (Int × Str)) (p : List Nat) : Prop := ∃ q ∈ h, ∃ s : Nat, s ≤ q.2.length ∧ isPre p ((TL.tl q.2).drop s)
theorem ordE_lets (h : List (Int × Str)) : (([] : List Nat) :: (ordE h).map fun e => TL.tl e.1).Pairwise (fun x y => ¬ y < x) := by
  rw [List.pairwise_cons]
  refine ⟨fun x _ z => (by cases z), ?_⟩
  rw [List.pairwise_map]
  exact (ordE_pw h).imp fun h => le3_letters h
theorem mem_strs {h : List (Int × Str)} {p : List Nat} : p ∈ allP [] ((ordE h).map fun e => TL.tl e.1) ↔ isStr h p := by
  rw [mem_allP (ordE_lets h)]
  constructor
  · rintro ⟨⟨x, hx, hp⟩, _⟩
    obtain ⟨e, he, rfl⟩ := List.mem_map.mp hx
    obtain ⟨q, hq, s, hs, rfl⟩ := mem_ends3.mp (mem_ordE.mp he)
    rw [show TL.tl (suf q.2 s, q.1, (s : Int)).1 = (TL.tl q.2).drop s from suf_tl _ _] at hp
    exact ⟨q, hq, s, hs, hp⟩
  · rintro ⟨q, hq, s, hs, hp⟩
    refine ⟨⟨_, List.mem_map.mpr ⟨_, mem_ordE.mpr (mem_ends3.mpr ⟨q, hq, s, hs, rfl⟩), rfl⟩, ?_⟩, fun z => ?_⟩
    · show isPre p (TL.tl (suf q.2 s))
      rw [suf_tl]
      exact hp
    · have := isPre_len z
      exact z.1 (List.eq_nil_of_length_eq_zero (by simpa using this))
/-- how many -/
def strN (h : List (Int × Str)) : Nat := (allP [] ((ordE h).map fun e => TL.tl e.1)).length
theorem strN_eq (h : List (Int × Str)) : (strN h : Int) = ((ordE h).map fun e => (e.1.length : Int)).sum - (cmsE (ordE h)).sum := by
  unfold strN
  rw [allP_len, ← cmsE_cmL, List.map_map]
  rfl
/-- any list of all stretches, each once, has as many -/
theorem strN_of {h : List (Int × Str)} {l : List (List Nat)} (nd : l.Nodup) (hm : ∀ p, p ∈ l ↔ isStr h p) : l.length = strN h :=
  nd_len nd (allP_nd (ordE_lets h)) fun p => (hm p).trans mem_strs.symm
/-! ### the common of two ends that are not neighbours -/
theorem comm_mid {x y z : List Nat} (h1 : ¬ y < x) (h2 : ¬ z < y) : comm x z ≤ comm x y ∧ comm x z ≤ comm y z := by
  have l := comm_le x z
  have e := comm_take (comm x z) x z (Nat.le_refl _)
  have pl : (x.take (comm x z)).length = comm x z := by rw [List.length_take]; omega
  have b : y.take (comm x z) = x.take (comm x z) := by
    have := between (p := x.take (comm x z)) h1 h2 (by rw [pl]) (by rw [pl]; exact e.symm)
    rw [pl] at this
    exact this
  have yl : comm x z ≤ y.length := by
    have := congrArg List.length b
    rw [List.length_take, pl] at this
    omega
  exact ⟨take_comm _ _ _ l.1 yl b.symm, take_comm _ _ _ yl l.2 (b.trans e)⟩
theorem comm_tri {x y z : List Nat} {m : Nat} (h1 : m ≤ comm x y) (h2 : m ≤ comm y z) : m ≤ comm x z := by
  have l1 := comm_le x y
  have l2 := comm_le y z
  exact take_comm m x z (by omega) (by omega) ((comm_take m x y h1).trans (comm_take m y z h2))
section
variable {E : List E3} (pw : E.Pairwise (fun p q => le3 p q = true))
include pw
theorem lets_mono {i j : Nat} (h : i ≤ j) (hj : j < E.length) : ¬ letsAt E j < letsAt E i := by
  rw [letsAt_eq (List.getElem?_eq_getElem hj), letsAt_eq (List.getElem?_eq_getElem (by omega : i < E.length))]
  exact le3_letters (pw_at pw le3_refl (by omega) hj h)
theorem comm_le_cm {i j k : Nat} (h1 : i < k) (h2 : k ≤ j) (hj : j < E.length) : ((comm (letsAt E i) (letsAt E j) : Nat) : Int) ≤ cmAt E (k - 1) := by
  have a := (comm_mid (lets_mono pw (i := i) (j := k) (by omega) (by omega)) (lets_mono pw (i := k) (j := j) h2 hj)).1
  have b := (comm_mid (lets_mono pw (i := i) (j := k - 1) (by omega) (by omega)) (lets_mono pw (i := k - 1) (j := k) (by omega) (by omega))).2
  unfold cmAt
  rw [show k - 1 + 1 = k by omega]
  omega
theorem le_comm {i : Nat} {m : Int} : ∀ (d : Nat), (∀ k, i < k → k ≤ i + 1 + d → m ≤ cmAt E (k - 1)) → m ≤ ((comm (letsAt E i) (letsAt E (i + 1 + d)) : Nat) : Int)
  | 0, h => by
    have := h (i + 1) (by omega) (by omega)
    unfold cmAt at this
    exact this
  | d + 1, h => by
    have ih := le_comm d fun k a b => h k a (by omega)
    have := h (i + 1 + d + 1) (by omega) (by omega)
    unfold cmAt at this
    rw [show i + 1 + d + 1 - 1 + 1 = i + 1 + d + 1 by omega, show i + 1 + d + 1 - 1 = i + 1 + d by omega] at this
    by_cases c : m < 0
    · omega
    · obtain ⟨n, rfl⟩ : ∃ n : Nat, m = n := ⟨m.toNat, by omega⟩
      have := comm_tri (m := n) (x := letsAt E i) (y := letsAt E (i + 1 + d)) (z := letsAt E (i + 1 + d + 1)) (by omega) (by omega)
      show (n : Int) ≤ ((comm (letsAt E i) (letsAt E (i + 1 + d + 1)) : Nat) : Int)
      omega
/-- the least of the commons behind the first up to the second -/
theorem least_is {i j : Nat} (hij : i < j) (hj : j < E.length) {m : Int} (h1 : ∃ k, i < k ∧ k ≤ j ∧ m = cmAt E (k - 1)) (h2 : ∀ k, i < k → k ≤ j → m ≤ cmAt E (k - 1)) : m = ((comm (letsAt E i) (letsAt E j) : Nat) : Int) := by
  obtain ⟨k, k1, k2, rfl⟩ := h1
  have a := comm_le_cm pw k1 k2 hj
  have b := le_comm pw (i := i) (j - (i + 1)) fun k x y => h2 k x (by omega)
  rw [show i + 1 + (j - (i + 1)) = j by omega] at b
  omega
end
end SH
set_option Elab.async false
set_option linter.all false
set_option maxRecDepth 100000
set_option maxHeartbeats 4000000
/-! all stretches gone through; slices -/
namespace SH
open PySem PySem.Spec PyProof.Rows L2
def cuts (z : Str) (s : Nat) : List (List Nat) := (List.range (z.length - s)).map fun k => ((TL.tl z).drop s).take (k + 1)
def cutsZ (z : Str) : List (List Nat) := (List.range z.length).flatMap (cuts z)
def cutsH (h : List (Int × Str)) : List (List Nat) := h.flatMap fun q => cutsZ q.2
theorem mem_cuts {z : Str} {s : Nat} {p : List Nat} : p ∈ cuts z s ↔ isPre p ((TL.tl z).drop s) := by
  unfold cuts
  rw [List.mem_map]
  have zl : (TL.tl z).length = z.length := rfl
  constructor
  · rintro ⟨k, hk, rfl⟩
    have hk := List.mem_range.mp hk
    have l : (((TL.tl z).drop s).take (k + 1)).length = k + 1 := by rw [List.length_take, List.length_drop]; omega
    refine ⟨fun e => ?_, by rw [l]⟩
    rw [e] at l
    simp at l
  · intro h
    have l := isPre_len h
    rw [List.length_drop] at l
    have p0 : 0 < p.length := List.length_pos_iff.mpr h.1
    refine ⟨p.length - 1, List.mem_range.mpr (by omega), ?_⟩
    rw [show p.length - 1 + 1 = p.length by omega]
    exact h.2
theorem mem_cutsZ {z : Str} {p : List Nat} : p ∈ cutsZ z ↔ ∃ s : Nat, s ≤ z.length ∧ isPre p ((TL.tl z).drop s) := by
  unfold cutsZ
  rw [List.mem_flatMap]
  constructor
  · rintro ⟨s, hs, hp⟩
    exact ⟨s, Nat.le_of_lt (List.mem_range.mp hs), mem_cuts.mp hp⟩
  · rintro ⟨s, hs, hp⟩
    refine ⟨s, List.mem_range.mpr ?_, mem_cuts.mpr hp⟩
    rcases Nat.lt_or_ge s z.length with c | c
    · exact c
    · have := isPre_len hp
      have zl : (TL.tl z).length = z.length := rfl
      rw [List.length_drop] at this
      exact absurd (List.eq_nil_of_length_eq_zero (by omega : p.length = 0)) hp.1
theorem mem_cutsH {h : List (Int × Str)} {p : List Nat} : p ∈ cutsH h ↔ isStr h p := by
  unfold cutsH
  rw [List.mem_flatMap]
  constructor
  · rintro ⟨q, hq, hp⟩
    exact ⟨q, hq, mem_cutsZ.mp hp⟩
  · rintro ⟨q, hq, hp⟩
    exact ⟨q, hq, mem_cutsZ.mpr hp⟩
theorem cutsH_snoc (h : List (Int × Str)) (q : Int × Str) : cutsH (h ++ [q]) = cutsH h ++ cutsZ q.2 := by
  unfold cutsH
  rw [List.flatMap_append]
  simp
theorem flat_range {α : Type} (f : Nat → List α) (n : Nat) : (List.range (n + 1)).flatMap f = (List.range n).flatMap f ++ f n := by
  rw [List.range_succ, List.flatMap_append]
  simp
/-- the keys of a table are these words -/
def KeyW (kvs : List (Key × V)) (S : List (List Nat)) : Prop := (kvs.map (·.1)).Nodup ∧ ∀ k : Key, k ∈ kvs.map (·.1) ↔ ∃ z : Str, k = .inr z ∧ TL.tl z ∈ S
theorem KeyW.put {kvs : List (Key × V)} {S : List (List Nat)} (h : KeyW kvs S) (z : Str) (v : V) : KeyW (putK kvs (.inr z) v) (S ++ [TL.tl z]) := by
  refine ⟨keys_put_nd h.1, fun k => ?_⟩
  rw [keys_put_mem, h.2]
  constructor
  · rintro (⟨y, rfl, hy⟩ | rfl)
    · exact ⟨y, rfl, List.mem_append_left _ hy⟩
    · exact ⟨z, rfl, List.mem_append_right _ (List.mem_singleton.mpr rfl)⟩
  · rintro ⟨y, rfl, hy⟩
    rcases List.mem_append.mp hy with m | m
    · exact .inl ⟨y, rfl, m⟩
    · exact .inr (congrArg Sum.inr (str_ext (List.mem_singleton.mp m)))
theorem KeyW.nil : KeyW [] [] := ⟨List.nodup_nil, fun k => by simp⟩
theorem KeyW.eq {kvs : List (Key × V)} {S S' : List (List Nat)} (h : KeyW kvs S) (e : S = S') : KeyW kvs S' := e ▸ h
def keyL : Key → List Nat
  | .inl _ => []
  | .inr z => TL.tl z
theorem KeyW.len {kvs : List (Key × V)} {h : List (Int × Str)} (k : KeyW kvs (cutsH h)) : kvs.length = strN h := by
  have : ((kvs.map (·.1)).map keyL).length = strN h := by
    refine strN_of ?_ fun p => ?_
    · rw [List.Nodup, List.pairwise_map]
      refine (show (kvs.map (·.1)).Pairwise (· ≠ ·) from k.1).imp_of_mem fun {a b} ha hb ne e => ?_
      obtain ⟨x, rfl, _⟩ := (k.2 a).mp ha
      obtain ⟨y, rfl, _⟩ := (k.2 b).mp hb
      exact ne (congrArg Sum.inr (str_ext e))
    · rw [← mem_cutsH, List.mem_map]
      constructor
      · rintro ⟨a, ha, rfl⟩
        obtain ⟨x, rfl, hx⟩ := (k.2 a).mp ha
        exact hx
      · intro hp
        have e : TL.tl (⟨p.toArray⟩ : Str) = p := rfl
        exact ⟨.inr ⟨p.toArray⟩, (k.2 _).mpr ⟨_, rfl, by rw [e]; exact hp⟩, rfl⟩
  rw [List.length_map, List.length_map] at this
  exact this
theorem cut_ab (xs : List V) {a b : Nat} (h1 : a ≤ b) (h : b ≤ xs.length) : cutV xs (some (a : Int)) (some (b : Int)) = (xs.drop a).take (b - a) := by
  unfold cutV
  rw [HT.sIx_nat, HT.sIx_nat, Nat.min_eq_left h, Nat.min_eq_left (by omega)]
end SH
set_option Elab.async false
set_option linter.all false
set_option maxRecDepth 100000
set_option maxHeartbeats 4000000
/-! a dict of words, each with the list of the numbers of the texts where it stands -/
namespace SH
open PySem PySem.Spec PyProof.Rows L2
abbrev WT := List (Str × Addr × List Int)
def wkvs (T : WT) : List (Key × V) := T.map fun e => ((Sum.inr e.1 : Key), V.ref e.2.1)
/-- what has been met: words and numbers, in order -/
abbrev Occ := List (Str × Int)
structure Wd (H0 H : Hp) (D : Addr) (T : WT) : Prop where
  at_ : H D = some (.dK (wkvs T))
  sm : Same H0 H
  nD : H0 D = none
  kd : (T.map (·.1)).Nodup
  rd : (T.map (·.2.1)).Nodup
  row : ∀ e ∈ T, H e.2.1 = some (.lst (e.2.2.map V.int)) ∧ H0 e.2.1 = none
/-- it tells what has been met -/
structure WdOf (T : WT) (O : Occ) : Prop where
  mem : ∀ z, z ∈ T.map (·.1) ↔ z ∈ O.map (·.1)
  val : ∀ e ∈ T, e.2.2 = (O.filter fun o => decide (o.1 = e.1)).map (·.2)
theorem wkvs_keys (T : WT) : (wkvs T).map (·.1) = (T.map (·.1)).map fun z => (Sum.inr z : Key) := by
  unfold wkvs
  rw [List.map_map, List.map_map]
  rfl
theorem Wd.val_of {H0 H : Hp} {D : Addr} {T : WT} (h : Wd H0 H D T) {e : Str × Addr × List Int} (he : e ∈ T) : valV (wkvs T) (.inr e.1) = some (.ref e.2.1) := by
  have kd := h.kd
  unfold wkvs
  clear h
  induction T with
  | nil => cases he
  | cons a r ih =>
    rw [List.map_cons] at kd ⊢
    rw [List.nodup_cons] at kd
    unfold valV
    rcases List.mem_cons.mp he with e1 | m
    · subst e1
      rw [List.find?_cons_of_pos (by simp)]
      rfl
    · have ne : ¬ a.1 = e.1 := fun z => kd.1 (by rw [z]; exact List.mem_map_of_mem m)
      rw [List.find?_cons_of_neg (by simpa using ne)]
      exact ih m kd.2
theorem wkvs_none {T : WT} {z : Str} (h : z ∉ T.map (·.1)) : valV (wkvs T) (.inr z) = none := by
  unfold valV
  rw [List.find?_eq_none.mpr fun x hx => ?_]
  · rfl
  · unfold wkvs at hx
    obtain ⟨e, he, rfl⟩ := List.mem_map.mp hx
    have : ¬ e.1 = z := fun y => h (y ▸ List.mem_map_of_mem he)
    simpa using this
theorem wkvs_put {T : WT} {z : Str} {r : Addr} (h : z ∉ T.map (·.1)) : putK (wkvs T) (.inr z) (.ref r) = wkvs (T ++ [(z, r, [])]) := by
  unfold putK
  rw [if_neg, show wkvs (T ++ [(z, r, [])]) = wkvs T ++ [((Sum.inr z : Key), V.ref r)] by unfold wkvs; rw [List.map_append]; rfl]
  intro y
  obtain ⟨x, hx, e⟩ := List.any_eq_true.mp y
  unfold wkvs at hx
  obtain ⟨e2, he, rfl⟩ := List.mem_map.mp hx
  have := of_decide_eq_true e
  exact h ((Sum.inr.inj this) ▸ List.mem_map_of_mem he)
def bump (T : WT) (z : Str) (n : Int) : WT := T.map fun x => if x.1 = z then (x.1, x.2.1, x.2.2 ++ [n]) else x
theorem bump_keys (T : WT) (z : Str) (n : Int) : (bump T z n).map (·.1) = T.map (·.1) := by
  unfold bump
  rw [List.map_map]
  refine List.map_congr_left fun x _ => ?_
  show (if x.1 = z then (x.1, x.2.1, x.2.2 ++ [n]) else x).1 = x.1
  split <;> rfl
theorem bump_refs (T : WT) (z : Str) (n : Int) : (bump T z n).map (·.2.1) = T.map (·.2.1) := by
  unfold bump
  rw [List.map_map]
  refine List.map_congr_left fun x _ => ?_
  show (if x.1 = z then (x.1, x.2.1, x.2.2 ++ [n]) else x).2.1 = x.2.1
  split <;> rfl
theorem bump_kvs (T : WT) (z : Str) (n : Int) : wkvs (bump T z n) = wkvs T := by
  unfold bump wkvs
  rw [List.map_map]
  refine List.map_congr_left fun x _ => ?_
  show ((Sum.inr (if x.1 = z then (x.1, x.2.1, x.2.2 ++ [n]) else x).1 : Key), V.ref (if x.1 = z then (x.1, x.2.1, x.2.2 ++ [n]) else x).2.1) = _
  split <;> rfl
theorem Wd.rne {H0 H : Hp} {D : Addr} {T : WT} (h : Wd H0 H D T) {e : Str × Addr × List Int} (he : e ∈ T) : e.2.1 ≠ D := fun z => by
  have := (h.row e he).1
  rw [z, h.at_] at this
  cases this
theorem nodup_key {T : WT} (h : (T.map (·.1)).Nodup) {e f : Str × Addr × List Int} (he : e ∈ T) (hf : f ∈ T) (k : e.1 = f.1) : e = f := by
  induction T with
  | nil => cases he
  | cons a r ih =>
    rw [List.map_cons, List.nodup_cons] at h
    rcases List.mem_cons.mp he with e1 | m1 <;> rcases List.mem_cons.mp hf with e2 | m2
    · rw [e1, e2]
    · exact (h.1 (by rw [← e1, k]; exact List.mem_map_of_mem (f := fun x : Str × Addr × List Int => x.1) m2)).elim
    · exact (h.1 (by rw [← e2, ← k]; exact List.mem_map_of_mem (f := fun x : Str × Addr × List Int => x.1) m1)).elim
    · exact ih h.2 m1 m2
theorem nodup_ref {T : WT} (h : (T.map (·.2.1)).Nodup) {e f : Str × Addr × List Int} (he : e ∈ T) (hf : f ∈ T) (k : e.2.1 = f.2.1) : e = f := by
  induction T with
  | nil => cases he
  | cons a r ih =>
    rw [List.map_cons, List.nodup_cons] at h
    rcases List.mem_cons.mp he with e1 | m1 <;> rcases List.mem_cons.mp hf with e2 | m2
    · rw [e1, e2]
    · exact (h.1 (by rw [← e1, k]; exact List.mem_map_of_mem (f := fun x : Str × Addr × List Int => x.2.1) m2)).elim
    · exact (h.1 (by rw [← e2, ← k]; exact List.mem_map_of_mem (f := fun x : Str × Addr × List Int => x.2.1) m1)).elim
    · exact ih h.2 m1 m2
/-- a word more -/
theorem Wd.new {H0 H : Hp} {D : Addr} {T : WT} (h : Wd H0 H D T) {z : Str} (hz : z ∉ T.map (·.1)) {r : Addr} (nr : H r = none) : Wd H0 (upd (upd H r (.lst [])) D (.dK (wkvs (T ++ [(z, r, [])])))) D (T ++ [(z, r, [])]) := by
  have rD : r ≠ D := fun e => by rw [e, h.at_] at nr; cases nr
  refine ⟨upd_same, same_mut (h.sm.trans (same_new nr)) h.nD, h.nD, ?_, ?_, fun e m => ?_⟩
  · rw [List.map_append, List.nodup_append]
    exact ⟨h.kd, by simp, fun a ha b hb e => by rw [List.mem_singleton.mp hb] at e; exact hz (by rw [← show a = z from e]; exact ha)⟩
  · rw [List.map_append, List.nodup_append]
    refine ⟨h.rd, by simp, fun a ha b hb e => ?_⟩
    rw [List.mem_singleton.mp hb] at e
    obtain ⟨x, hx, rfl⟩ := List.mem_map.mp ha
    have := (h.row x hx).1
    rw [show x.2.1 = r from e, nr] at this
    cases this
  · rcases List.mem_append.mp m with m | m
    · rw [upd_ne (h.rne m)]
      exact ⟨same_new nr _ _ (h.row e m).1, (h.row e m).2⟩
    · rw [List.mem_singleton.mp m]
      exact ⟨by rw [upd_ne rD]; exact upd_same, h.sm.free nr⟩
/-- a number more behind a word -/
theorem Wd.app {H0 H : Hp} {D : Addr} {T : WT} (h : Wd H0 H D T) {e : Str × Addr × List Int} (he : e ∈ T) (n : Int) : Wd H0 (upd H e.2.1 (.lst (e.2.2.map V.int ++ [.int n]))) D (bump T e.1 n) := by
  refine ⟨?_, same_mut h.sm (h.row e he).2, h.nD, by rw [bump_keys]; exact h.kd, by rw [bump_refs]; exact h.rd, fun x hx => ?_⟩
  · rw [upd_ne (fun z => h.rne he z.symm), bump_kvs]
    exact h.at_
  · unfold bump at hx
    obtain ⟨y, hy, rfl⟩ := List.mem_map.mp hx
    by_cases c : y.1 = e.1
    · have := nodup_key h.kd hy he c
      subst this
      rw [if_pos rfl]
      exact ⟨by rw [List.map_append]; exact upd_same, (h.row y hy).2⟩
    · rw [if_neg c]
      rw [upd_ne (fun z => c (congrArg (·.1) (nodup_ref h.rd hy he z)))]
      exact h.row y hy
theorem WdOf.bump {T : WT} {O : Occ} {z : Str} {n : Int} (hs : ∀ y, y ∈ T.map (·.1) ↔ y ∈ O.map (·.1) ∨ y = z) (hv : ∀ e ∈ T, e.2.2 = (O.filter fun o => decide (o.1 = e.1)).map (·.2)) : WdOf (SH.bump T z n) (O ++ [(z, n)]) := by
  refine ⟨fun y => ?_, fun e he => ?_⟩
  · rw [bump_keys, hs y, List.map_append, List.mem_append]
    exact or_congr Iff.rfl List.mem_singleton.symm
  · unfold SH.bump at he
    obtain ⟨x, hx, rfl⟩ := List.mem_map.mp he
    rw [List.filter_append, List.map_append]
    by_cases c : x.1 = z
    · rw [if_pos c]
      show x.2.2 ++ [n] = (O.filter fun o => decide (o.1 = x.1)).map (·.2) ++ ([((z, n) : Str × Int)].filter fun o => decide (o.1 = x.1)).map (·.2)
      rw [← hv x hx, List.filter_cons_of_pos (p := fun o : Str × Int => decide (o.1 = x.1)) (decide_eq_true (show z = x.1 from c.symm))]
      rfl
    · rw [if_neg c]
      show x.2.2 = (O.filter fun o => decide (o.1 = x.1)).map (·.2) ++ ([((z, n) : Str × Int)].filter fun o => decide (o.1 = x.1)).map (·.2)
      rw [← hv x hx, List.filter_cons_of_neg (p := fun o : Str × Int => decide (o.1 = x.1)) (by simpa using fun y : z = x.1 => c y.symm)]
      exact (List.append_nil _).symm
theorem Wd.same {H0 H H' : Hp} {D : Addr} {T : WT} (s : Same H H') (h : Wd H0 H D T) : Wd H0 H' D T := ⟨s _ _ h.at_, h.sm.trans s, h.nD, h.kd, h.rd, fun e m => ⟨s _ _ (h.row e m).1, (h.row e m).2⟩⟩
/-! ### the stretches of a house -/
def cutN (z : Str) (a b : Nat) : Str := cutS z (some (a : Int)) (some (b : Int))
def occA (z : Str) (n : Int) (a : Nat) (m : Nat) : Occ := (List.range m).map fun k => (cutN z a (a + 1 + k), n)
def occQ (q : Int × Str) (m : Nat) : Occ := (List.range m).flatMap fun a => occA q.2 q.1 a (q.2.length - a)
def occ (h : List (Int × Str)) : Occ := h.flatMap fun q => occQ q q.2.length
theorem occA_succ (z : Str) (n : Int) (a m : Nat) : occA z n a (m + 1) = occA z n a m ++ [(cutN z a (a + 1 + m), n)] := by
  unfold occA
  rw [List.range_succ, List.map_append]
  rfl
theorem occQ_succ (q : Int × Str) (m : Nat) : occQ q (m + 1) = occQ q m ++ occA q.2 q.1 m (q.2.length - m) := by
  unfold occQ
  rw [List.range_succ, List.flatMap_append]
  simp
theorem occ_snoc (h : List (Int × Str)) (q : Int × Str) : occ (h ++ [q]) = occ h ++ occQ q q.2.length := by
  unfold occ
  rw [List.flatMap_append]
  simp
end SH
set_option Elab.async false
set_option linter.all false
set_option maxRecDepth 100000
set_option maxHeartbeats 4000000
/-! shortest single stretches -/
namespace SH
open PySem PySem.Spec PyProof.Rows L2
theorem cutN_tl {z : Str} {a b : Nat} (h1 : a ≤ b) (h2 : b ≤ z.length) : TL.tl (cutN z a b) = ((TL.tl z).drop a).take (b - a) := by
  unfold cutN
  have e : (b : Int) = (a : Int) + ((b - a : Nat) : Int) := by omega
  rw [e]
  exact cut_mid (by omega)
theorem cutN_len {z : Str} {a b : Nat} (h1 : a ≤ b) (h2 : b ≤ z.length) : (cutN z a b).length = b - a := by
  have := congrArg List.length (cutN_tl h1 h2)
  rw [List.length_take, List.length_drop] at this
  have e1 : (TL.tl (cutN z a b)).length = (cutN z a b).length := rfl
  have e2 : (TL.tl z).length = z.length := rfl
  omega
theorem cutN_is {z w : Str} {m k : Nat} (hm : m + 1 + k ≤ z.length) : cutN z m (m + 1 + k) = w ↔ (k + 1 = w.length ∧ standsP w z m = true) := by
  have tl := cutN_tl (z := z) (a := m) (b := m + 1 + k) (by omega) hm
  rw [show m + 1 + k - m = k + 1 by omega] at tl
  constructor
  · intro h
    have hl := cutN_len (z := z) (a := m) (b := m + 1 + k) (by omega) hm
    rw [h] at hl tl
    refine ⟨by omega, decide_eq_true ?_⟩
    rw [hl, show m + 1 + k - m = k + 1 by omega]
    exact tl.symm
  · rintro ⟨h1, h2⟩
    refine str_ext ?_
    show TL.tl (cutN z m (m + 1 + k)) = TL.tl w
    rw [tl, h1]
    exact of_decide_eq_true h2
theorem range_one (n : Nat) : ∀ c : Nat, ((List.range c).filter fun k => decide (k + 1 = n)).length = if 0 < n ∧ n ≤ c then 1 else 0
  | 0 => by
    rw [if_neg (by omega)]
    rfl
  | c + 1 => by
    rw [List.range_succ, List.filter_append, List.length_append, range_one n c]
    by_cases h : c + 1 = n
    · rw [if_neg (by omega), if_pos (by omega), List.filter_cons_of_pos (p := fun k => decide (k + 1 = n)) (decide_eq_true h)]
      rfl
    · rw [List.filter_cons_of_neg (p := fun k => decide (k + 1 = n)) (by simpa using h)]
      by_cases h2 : 0 < n ∧ n ≤ c
      · rw [if_pos h2, if_pos (by omega)]
        rfl
      · rw [if_neg h2, if_neg (by omega)]
        rfl
theorem occA_cnt {z w : Str} {n : Int} {m : Nat} (hm : m < z.length) (hw : 0 < w.length) : ((occA z n m (z.length - m)).filter fun o => decide (o.1 = w)).length = if standsP w z m = true then 1 else 0 := by
  unfold occA
  rw [List.filter_map, List.length_map]
  have e : (List.range (z.length - m)).filter ((fun o : Str × Int => decide (o.1 = w)) ∘ fun k => (cutN z m (m + 1 + k), n)) = (List.range (z.length - m)).filter fun k => decide (k + 1 = w.length ∧ standsP w z m = true) := by
    refine List.filter_congr fun k hk => ?_
    have := List.mem_range.mp hk
    exact decide_eq_decide.mpr (cutN_is (by omega))
  rw [e]
  by_cases s : standsP w z m = true
  · rw [if_pos s]
    have : (List.range (z.length - m)).filter (fun k => decide (k + 1 = w.length ∧ standsP w z m = true)) = (List.range (z.length - m)).filter fun k => decide (k + 1 = w.length) :=
      List.filter_congr fun k _ => decide_eq_decide.mpr ⟨fun h => h.1, fun h => ⟨h, s⟩⟩
    rw [this, range_one, if_pos]
    have := stands_le s (by omega)
    omega
  · rw [if_neg s, List.filter_eq_nil_iff.mpr fun k _ h => s (of_decide_eq_true h).2]
    rfl
theorem occQ_cnt {q : Int × Str} {w : Str} (hw : 0 < w.length) : ∀ m, m ≤ q.2.length → ((occQ q m).filter fun o => decide (o.1 = w)).length = ((List.range m).filter (standsP w q.2)).length
  | 0, _ => rfl
  | m + 1, h => by
    rw [occQ_succ, List.filter_append, List.length_append, occQ_cnt hw m (by omega), occA_cnt (by omega) hw, List.range_succ, List.filter_append, List.length_append]
    congr 1
    by_cases s : standsP w q.2 m = true
    · rw [if_pos s, List.filter_cons_of_pos s]; rfl
    · rw [if_neg s, List.filter_cons_of_neg s]; rfl
/-- as many numbers as places -/
theorem occ_cnt {w : Str} (hw : 0 < w.length) : ∀ h : List (Int × Str), ((occ h).filter fun o => decide (o.1 = w)).length = (plc h w).length
  | [] => rfl
  | q :: r => by
    have e1 : occ (q :: r) = occQ q q.2.length ++ occ r := rfl
    have e2 : plc (q :: r) w = plcOf w q ++ plc r w := rfl
    rw [e1, e2, List.filter_append, List.length_append, List.length_append, occ_cnt hw r, occQ_cnt hw _ (Nat.le_refl _)]
    congr 1
    unfold plcOf
    rw [List.length_map, List.range_succ, List.filter_append, List.length_append]
    have : standsP w q.2 q.2.length = false := by
      cases s : standsP w q.2 q.2.length with
      | false => rfl
      | true =>
        have := stands_le s (Nat.le_refl _)
        omega
    rw [List.filter_cons_of_neg (by rw [this]; decide)]
    rfl
theorem occ_mem {h : List (Int × Str)} {q : Int × Str} (hq : q ∈ h) {a b : Nat} (h1 : a < b) (h2 : b ≤ q.2.length) : cutN q.2 a b ∈ (occ h).map (·.1) := by
  have : ∀ m, a < m → m ≤ q.2.length → (cutN q.2 a b, q.1) ∈ occQ q m := fun m => by
    induction m with
    | zero => intro h; omega
    | succ m ih =>
      intro c1 c2
      rw [occQ_succ]
      rcases Nat.lt_or_ge a m with c | c
      · exact List.mem_append_left _ (ih c (by omega))
      · refine List.mem_append_right _ ?_
        rw [show m = a by omega]
        unfold occA
        exact List.mem_map.mpr ⟨b - a - 1, List.mem_range.mpr (by omega), by rw [show a + 1 + (b - a - 1) = b by omega]⟩
  exact List.mem_map.mpr ⟨_, List.mem_flatMap.mpr ⟨q, hq, this _ (by omega) (Nat.le_refl _)⟩, rfl⟩
/-- a stretch over a letter, that stands once -/
def Sgl (h : List (Int × Str)) (z : Str) (i : Nat) (s m : Nat) : Prop := s ≤ i ∧ i < s + m ∧ s + m ≤ z.length ∧ (plc h (cutN z s (s + m))).length = 1
/-- the least: by size, then by start -/
def LeastS (h : List (Int × Str)) (z : Str) (i : Nat) : Option (Nat × Nat) → Prop
  | none => ∀ s m, ¬ Sgl h z i s m
  | some (s, m) => Sgl h z i s m ∧ ∀ s' m', Sgl h z i s' m' → m < m' ∨ (m = m' ∧ s ≤ s')
theorem leastS_uniq {h : List (Int × Str)} {z : Str} {i : Nat} : ∀ {a b : Option (Nat × Nat)}, LeastS h z i a → LeastS h z i b → a = b
  | none, none, _, _ => rfl
  | none, some (s, m), h1, h2 => absurd h2.1 (h1 s m)
  | some (s, m), none, h1, h2 => absurd h1.1 (h2 s m)
  | some (s, m), some (s', m'), h1, h2 => by
    have a := h1.2 s' m' h2.1
    have b := h2.2 s m h1.1
    have : m = m' ∧ s = s' := by omega
    rw [this.1, this.2]
/-- how it is told -/
def AtS (_ : PySem.W.Frag) (H : Hp) (v : V) : Option (Nat × Nat) → Prop
  | none => v = .non
  | some (s, m) => ∃ t, v = .ref t ∧ H t = some (.tup [.int (s : Int), .int ((s + m : Nat) : Int)])
def dS : Option (Nat × Nat) → PyData
  | none => .none
  | some (s, m) => .tuple [.int (s : Int), .int ((s + m : Nat) : Int)]
theorem AtS.dp {K : PySem.W.Frag} {H : Hp} {v : V} : ∀ {r : Option (Nat × Nat)}, AtS K H v r → Dp K H v (dS r)
  | none, h => by rw [show v = .non from h]; exact .non
  | some (s, m), h => by
    obtain ⟨t, rfl, ht⟩ := h
    exact .tup (.inl (.inl ht)) (.cons (.int _) (.cons (.int _) .nil))
theorem AtS.same {K : PySem.W.Frag} {H H' : Hp} {v : V} (e : Same H H') : ∀ {r : Option (Nat × Nat)}, AtS K H v r → AtS K H' v r
  | none, h => h
  | some (s, m), h => by
    obtain ⟨t, rfl, ht⟩ := h
    exact ⟨t, rfl, e _ _ ht⟩
theorem okd_S : ∀ r : Option (Nat × Nat), Okd (dS r)
  | none => okd_non
  | some (s, m) => ⟨rfl, by show max 0 (max 0 0) + 1 ≤ 60; decide⟩
end SH
set_option Elab.async false
set_option linter.all false
set_option maxRecDepth 100000
set_option maxHeartbeats 4000000
/-! a law whose body tells data by repr: what is promised where no repr is under way -/
namespace SH
open PySem PySem.Spec PyProof.Rows L2
/-- a def's promise at such a place -/
structure FnG (P : Program) (w : World) (K : PySem.W.Frag) (mg : Str → Option Value) (base : Heap) (k : Nat) (f : Addr) (fd : FuncData) (ps : List Str) (sp : Sp) : Prop where
  run : ∀ (A : Around) (outer : List Env) (s : Shared) (H : Hp) (args : Args) (us : List Value) (vs : List V) (Q : VK) (E : XK), A.guards = some [] → Room k A → Env0 P w K mg base A outer s H → BindsTo s fd args (ps.zip us) → Vals vs us → sp vs H Q E →
    codeAny (model P w) A (.call (.ref f) args) (CR CX0 outer P w H s Q E) s
theorem okG {P : Program} {w : World} {K : PySem.W.Frag} {mg : Str → Option Value} {base : Heap} {x qual : Str} {st : Stmt} {f : Addr} {fd : FuncData} {N ps : List Str} {k : Nat} {sp : Sp} (F : Fun K x qual st f fd) (S : FnScope N ps (defScope st)) (len : ∀ vs H Q E, sp vs H Q E → vs.length = ps.length)
    (hbody : ∀ (cdv : Value) (A : Around) (outer : List Env) (s : Shared) (H : Hp) (vs : List V) (Q : VK) (E : XK), A.guards = some [] → Room k (A.deeper (envOfC qual (defScope st) s.heap.objs.size f cdv)) → sp vs H Q E →
      ∃ t, PSs (cxOf CX0 P w K mg base N qual (defScope st) f cdv A outer s H E).nox (defBody st) t ∧ t { nx := fun _ H' => Q .non H', rt := Q } (start N vs) H) : FnG P w K mg base (k + 1) f fd ps sp := by
  obtain ⟨oc, od, kV, doc, pm, an, cdv, ct, osl, rfl, lk, hcd⟩ := F.ex
  constructor
  intro A outer s H args us vs Q E hg room env binds vals want
  -- the body's reading, at this place
  obtain ⟨t, body, start_⟩ := hbody cdv A outer s H vs Q E hg (room.deeper _) want
  have up := fun b o e => (env.bs b o e).1
  have KX : K.In s.heap := env.mod.kin.keeps up
  have slots : ∀ y ∈ ps.zip us, (defScope st).names.lookup y.1 = some .local ∨ ((defScope st).names.lookup y.1 = some .cell ∧ ((cellsFrom (s.heap.objs.size + 1) (defScope st).names []).lookup y.1).isSome = true) := fun y hy =>
    (S.par y.1 (List.of_mem_zip (a := y.1) (b := y.2) hy).1).imp id fun q => ⟨q, PySem.W.cellsFrom_some _ _ _ (.inl q)⟩
  refine codeAny_call_function room.depth (KX _ _ lk) rfl S.co S.gen rfl (PySem.W.codeRec_of KX hcd) (binds _ _ _ _ (wpAny_newFunctionEnv_cells S.kind slots fun en eq s1 made => ?_))
  subst eq
  refine ⟨(env.mod.nolimit.keeps up).keeps made.toInCall.keep, codeAny_func ?_⟩
  have I := inv_start (CX := CX0) (E := E) S room.hd env (len _ _ _ _ want) vals made
  refine wpAny_mono (body.nox.run [] s1 (start N vs) H _ I start_) (fun fl s' h => ?_) fun _ _ h => h
  have told : ∀ {σ' : L2.St} {H' : Hp} {v : V} {u : Value}, Inv (cxOf CX0 P w K mg base N qual (defScope st) f cdv A outer s H E) [] σ' H' s' → RelV v u → Q v H' → CE outer P w H s Q u s' := fun J r q => ⟨_, _, J.os, J.bare, J.base, J.hok, r, q⟩
  match fl, h with
  | .ret u, ⟨v, σ', H', J, r, q⟩ => exact told J r q
  | .next, ⟨σ', H', J, q⟩ => exact told (v := V.non) (u := Value.none) J rfl q
  | .brk, ⟨_, _, _, q⟩ => exact q.elim
  | .cont, ⟨_, _, _, q⟩ => exact q.elim
/-- the heap of which a law's call starts: the script is told, where it is no object of the module, and nothing else -/
theorem script_heap {P : Program} {w : World} {K : PySem.W.Frag} {h : Heap} {a : Addr} {vs : List Value} {ns : List Int} (KX : K.In h) (ha : h.get? a = some { cls := .type "list", data := .seq vs.toArray }) (hi : IntsAre vs ns) (hl : ns.length ≤ sizeLine) :
    ∃ H : Hp, Only H ∧ SqL K H a (ns.map V.int) ∧ HOk P w H h ∧ ∀ b, H b ≠ none → b = a ∧ K.lookup a = none := by
  have rv := vals_ints hi
  by_cases hk : ∃ o, K.lookup a = some o
  · obtain ⟨o, hk⟩ := hk
    have e := (KX a o hk).symm.trans ha
    cases e
    exact ⟨fun _ => none, fun _ => .inl rfl, .inr ⟨_, vs.toArray, _, hk, rfl, rfl, rfl, by rw [List.size_toArray, hi.length]; exact hl, by simpa using rv⟩, (fun b u z => nomatch z), fun b z => absurd rfl z⟩
  · have hk : K.lookup a = none := by
      cases e : K.lookup a with
      | none => rfl
      | some o => exact absurd ⟨o, e⟩ hk
    refine ⟨upd (fun _ => none) a (.frz { cls := .type "list", data := .seq vs.toArray } (.lst (ns.map V.int))), fun b => ?_, .inl (.inr ⟨_, upd_same⟩), fun b u z => ?_, fun b z => ?_⟩
    · by_cases hb : b = a
      · subst hb; exact .inr ⟨_, _, upd_same⟩
      · exact .inl (upd_ne hb)
    · by_cases hb : b = a
      · subst hb
        obtain rfl := Option.some.inj (upd_same.symm.trans z)
        exact ⟨ha, by rw [List.length_map]; exact hl, vs, _, rv, ha⟩
      · rw [upd_ne hb] at z
        cases z
    · by_cases hb : b = a
      · exact ⟨hb, hk⟩
      · exact absurd (upd_ne hb) z
/-- a law's end, its def promised where no repr is under way -/
theorem walk_ofG {l : PySem.W.OpenLaw} {n k : Nat} {q : Program} {loose : List Str} {XP : (Str → Option Value) → Heap → Prop} {YP : World → Heap → Prop} {d : DefRec} {K : Params → PySem.W.Frag} {sp : World → Sp} {x : Str}
    (hn : l.most = some n) (hn2 : n ≤ sizeLine) (hdf : d.params.defaults = []) (room : Room k callerA) (hY : ∀ (w : World) (h : Heap), YP w h → (K w.params).In h)
    (F : ∀ (w : World) (mg : Str → Option Value) (fa : Addr) (h : Heap), (K w.params).In h → h.Ns mainGlobals mg → mg d.name = some (.ref fa) →
      ∃ fd : FuncData, (∀ (s : Shared) (u : Value), BindsTo s fd ⟨[u], []⟩ [(x, u)]) ∧ ∀ base : Heap, (K w.params).In base → base.Ns mainGlobals mg → FnG l.prog w (K w.params) mg base k fa fd [x] (sp w))
    (start_ : ∀ (w : World) (H : Hp) (a : Addr) (ns : List Int), ns.length ≤ n → Only H → SqL (K w.params) H a (ns.map V.int) → sp w [.ref a] H (fun v _ => v = .bl true) fun _ _ _ => False) :
    PySem.W.WalkO q loose XP YP l.row.toRowW d [] (fun f vs => PySem.call f vs) := by
  refine Att.attach_call hn hdf fun w s₀ s₁ mg mb fa o pm cd doc a vs ns_ G Y _ _ _ hmg hobj hints hlen hgen => ?_
  have KX := hY w _ Y
  obtain ⟨fd, binds, promise⟩ := F w mg fa _ KX G.T.g hmg
  obtain ⟨H, only, script, hok, own⟩ := script_heap (P := l.prog) (w := w) KX hobj hints (Nat.le_trans hlen hn2)
  -- all that is written, and every dict, is apart from the script
  have free : ∀ {b : Addr}, (b = a → (K w.params).lookup a ≠ none ∨ ∃ (ob : Obj) (es : Array DictEntry) (ep : Nat), s₁.heap.get? a = some ob ∧ ob.data = .dict es ep) → H b = none := fun {b} other => by
    cases z : H b with
    | none => rfl
    | some u =>
      obtain ⟨e1, e2⟩ := own b (by rw [z]; simp)
      rcases other e1 with c | ⟨ob, es, ep, c1, c2⟩
      · exact absurd e2 c
      · rw [hobj] at c1
        cases c1
        cases c2
  have ns : ∀ {b : Addr} {m : Str → Option Value}, s₁.heap.Ns b m → (hidT s₁.heap H).Ns b m := fun {b m} ⟨ob, es, ep, e, dt, r⟩ =>
    ⟨ob, es, ep, hidT_get e (free fun z => .inr ⟨ob, es, ep, z ▸ e, dt⟩), dt, r⟩
  have KB : (K w.params).In (hidT s₁.heap H) := fun b ob e => hidT_get (KX b ob e) (free fun z => .inl (by rw [← z, e]; simp))
  obtain ⟨mc, l1, l2⟩ := G.T.nolimit
  have env : Env0 l.prog w (K w.params) mg (hidT s₁.heap H) callerA [] s₁ H :=
    { frames := rfl, mod := ⟨KB, ns G.T.g, ⟨mb, ns G.T.b, G.T.builtins⟩, mc, ns l1, l2⟩, bs := fun _ _ e => of_hidT e, bsz := Nat.le_of_eq (hidT_size _ _), funs := trivial, frf := (fun _ m => nomatch m), hok := hok, bare := .of_eq hgen }
  refine codeAny_mono ((promise _ KB (ns G.T.g)).run callerA [] s₁ H ⟨[.ref a], []⟩ [.ref a] [.ref a] _ _ rfl room env (binds s₁ (.ref a)) (.cons rfl .nil) (start_ w H a ns_ hlen only script)) fun r s' h => ?_
  match r, h with
  | .ok (.ret u), ⟨v, H', os, bare, un, hok', rel, (q : v = .bl true)⟩ =>
    subst q
    obtain rfl : u = Value.bool true := rel
    refine ⟨rfl, OldK.of_keep fun b ob e => ?_, os, bare⟩
    rcases only b with z | ⟨o2, xs, z⟩
    · exact un.keep b ob e z (fun m => nomatch m) (fun m => nomatch m)
    · have e2 := (hok' b _ (un.frzs b o2 _ z)).1
      rw [(hok b _ z).1] at e
      cases e
      exact e2
end SH
set_option Elab.async false
set_option linter.all false
set_option maxRecDepth 100000
set_option maxHeartbeats 4000000
/-! repr of data -/
namespace SH
open PySem PySem.Spec PyProof.Rows L2
/-- data whose repr is a text of bounded length -/
structure Shw (d : PyData) (n w : Nat) : Prop where
  lay : d.canLay0 = true
  deep : d.depth ≤ n
  wt : d.weight ≤ w
  sint : d.intsShort 13 = true
  shows : d.showable = true
  nd : d.hasDict = false
theorem Shw.mono {d : PyData} {n w n' w' : Nat} (h : Shw d n w) (h1 : n ≤ n') (h2 : w ≤ w') : Shw d n' w' := ⟨h.lay, Nat.le_trans h.deep h1, Nat.le_trans h.wt h2, h.sint, h.shows, h.nd⟩
theorem shw_int {i : Int} (h : i.natAbs < 10 ^ 12) : Shw (.int i) 0 41 := by
  have l : i.natAbs.log2 < 40 := by
    by_cases z : i.natAbs = 0
    · rw [z]; decide
    · exact (Nat.log2_lt z).mpr (Nat.lt_trans h (by decide))
  refine ⟨rfl, Nat.zero_le _, ?_, ?_, ?_, rfl⟩
  · show (if i == 0 then 0 else i.natAbs.log2 + 1) ≤ 41
    split <;> omega
  · show decide _ = true
    exact decide_eq_true (PyData.shown_int_le h)
  · show decide (i.natAbs.log2 < 1920) = true
    exact decide_eq_true (by omega)
theorem shw_str {z : Str} (h : PyData.strOk z = true) : Shw (.str z) 0 z.length := ⟨h, Nat.zero_le _, Nat.le_refl _, rfl, rfl, rfl⟩
theorem shw_all {n w : Nat} : ∀ {ds : List PyData}, (∀ d ∈ ds, Shw d n w) → PyData.canLayAll0 ds = true ∧ PyData.depthAll ds ≤ n ∧ PyData.weightAll ds ≤ ds.length * (w + 1) ∧ PyData.intsShortAll 13 ds = true ∧ PyData.showableAll ds = true ∧ PyData.hasDictAll ds = false
  | [], _ => ⟨rfl, Nat.zero_le _, Nat.zero_le _, rfl, rfl, rfl⟩
  | d :: ds, h => by
    have h1 := h d (List.mem_cons_self ..)
    obtain ⟨a1, a2, a3, a4, a5, a6⟩ := shw_all fun x m => h x (List.mem_cons_of_mem _ m)
    have b2 := h1.deep
    have b3 := h1.wt
    refine ⟨?_, ?_, ?_, ?_, ?_, ?_⟩
    · rw [PyData.canLayAll0, h1.lay, a1]; rfl
    · rw [PyData.depthAll]; omega
    · rw [PyData.weightAll, List.length_cons, Nat.succ_mul]; omega
    · rw [PyData.intsShortAll, h1.sint, a4]; rfl
    · rw [PyData.showableAll, h1.shows, a5]; rfl
    · rw [PyData.hasDictAll, h1.nd, a6]; rfl
theorem shw_list {n w : Nat} {ds : List PyData} (h : ∀ d ∈ ds, Shw d n w) : Shw (.list ds) (n + 1) (ds.length * (w + 1)) := by
  obtain ⟨a1, a2, a3, a4, a5, a6⟩ := shw_all h
  exact ⟨by rw [PyData.canLay0]; exact a1, by rw [PyData.depth]; omega, by rw [PyData.weight]; exact a3, by rw [PyData.intsShort]; exact a4, by rw [PyData.showable]; exact a5, by rw [PyData.hasDict]; exact a6⟩
theorem shw_tup {n w : Nat} {ds : List PyData} (h : ∀ d ∈ ds, Shw d n w) : Shw (.tuple ds) (n + 1) (ds.length * (w + 1)) := by
  obtain ⟨a1, a2, a3, a4, a5, a6⟩ := shw_all h
  exact ⟨by rw [PyData.canLay0]; exact a1, by rw [PyData.depth]; omega, by rw [PyData.weight]; exact a3, by rw [PyData.intsShort]; exact a4, by rw [PyData.showable]; exact a5, by rw [PyData.hasDict]; exact a6⟩
theorem Shw.okd {d : PyData} {n w : Nat} (h : Shw d n w) (hn : n ≤ 60) : Okd d := ⟨h.lay, Nat.le_trans h.deep hn⟩
theorem Shw.fits {d : PyData} {n w : Nat} (h : Shw d n w) (hn : n ≤ 60) (hw : w ≤ 1048576) : d.shown.length ≤ 15728653 := by
  refine PyData.shown_le_of_layable0 ?_ h.sint
  have e : (2 : Nat) ^ 20 = 1048576 := by decide
  show (PyData.canLay0 d && decide (PyData.depth d ≤ 64) && decide (PyData.weight d ≤ 2 ^ 20)) = true
  rw [h.lay, decide_eq_true (by have := h.deep; omega), decide_eq_true (by have := h.wt; omega)]
  rfl
/-- repr(list), repr(tuple) -/
def rRepr (K : PySem.W.Frag) : List V → Hp → VK → Prop := fun xs H Q => ∃ (a : Addr) (d : PyData) (n w : Nat), xs = [.ref a] ∧ Dp K H (.ref a) d ∧ Shw d n w ∧ n ≤ 60 ∧ w ≤ 1048576 ∧ Q (.str d.shown) H
theorem call_reprK {X : Cx} {K : PySem.W.Frag} (hg : X.A.guards = some []) (hu : X.A.units + 64 < cLine) (h : X.K = K := by rfl) : CallR X (.builtin "repr") (rRepr K) := by
  subst h
  intro pins s σ H vs us Q I r q
  obtain ⟨a, d, n, w, rfl, dp, sh, hn, hw, q⟩ := q
  rw [Vals.ref1 r]
  obtain ⟨as, rd⟩ := Dp.reads I d (.ref a) (.ref a) dp rfl
  refine repr_of_reads' rd sh.shows (PyData.noDict_hsm sh.nd) hg (by have := sh.deep; omega) (fun _ _ e => e) (fun h' u tk keep => ?_) (Nat.le_trans (sh.fits hn hw) (by decide))
  exact ⟨.str d.shown, H, I.kept keep, ⟨u, rfl⟩, q⟩
end SH
set_option Elab.async false
set_option linter.all false
set_option maxRecDepth 100000
set_option maxHeartbeats 4000000
/-! a dict of words, each with a list of things -/
namespace SH
open PySem PySem.Spec PyProof.Rows L2
abbrev VT := List (Str × Addr × List V)
def vkvs (T : VT) : List (Key × V) := T.map fun e => ((Sum.inr e.1 : Key), V.ref e.2.1)
/-- what has been met: words and numbers, in order -/
abbrev VOcc := List (Str × V)
structure Vd (H0 H : Hp) (D : Addr) (T : VT) : Prop where
  at_ : H D = some (.dK (vkvs T))
  sm : Same H0 H
  nD : H0 D = none
  kd : (T.map (·.1)).Nodup
  rd : (T.map (·.2.1)).Nodup
  row : ∀ e ∈ T, H e.2.1 = some (.lst e.2.2) ∧ H0 e.2.1 = none
/-- it tells what has been met -/
structure VdOf (T : VT) (O : VOcc) : Prop where
  mem : ∀ z, z ∈ T.map (·.1) ↔ z ∈ O.map (·.1)
  val : ∀ e ∈ T, e.2.2 = (O.filter fun o => decide (o.1 = e.1)).map (·.2)
theorem vkvs_keys (T : VT) : (vkvs T).map (·.1) = (T.map (·.1)).map fun z => (Sum.inr z : Key) := by
  unfold vkvs
  rw [List.map_map, List.map_map]
  rfl
theorem Vd.val_of {H0 H : Hp} {D : Addr} {T : VT} (h : Vd H0 H D T) {e : Str × Addr × List V} (he : e ∈ T) : valV (vkvs T) (.inr e.1) = some (.ref e.2.1) := by
  have kd := h.kd
  unfold vkvs
  clear h
  induction T with
  | nil => cases he
  | cons a r ih =>
    rw [List.map_cons] at kd ⊢
    rw [List.nodup_cons] at kd
    unfold valV
    rcases List.mem_cons.mp he with e1 | m
    · subst e1
      rw [List.find?_cons_of_pos (by simp)]
      rfl
    · have ne : ¬ a.1 = e.1 := fun z => kd.1 (by rw [z]; exact List.mem_map_of_mem m)
      rw [List.find?_cons_of_neg (by simpa using ne)]
      exact ih m kd.2
theorem vkvs_none {T : VT} {z : Str} (h : z ∉ T.map (·.1)) : valV (vkvs T) (.inr z) = none := by
  unfold valV
  rw [List.find?_eq_none.mpr fun x hx => ?_]
  · rfl
  · unfold vkvs at hx
    obtain ⟨e, he, rfl⟩ := List.mem_map.mp hx
    have : ¬ e.1 = z := fun y => h (y ▸ List.mem_map_of_mem he)
    simpa using this
theorem vkvs_put {T : VT} {z : Str} {r : Addr} (h : z ∉ T.map (·.1)) : putK (vkvs T) (.inr z) (.ref r) = vkvs (T ++ [(z, r, [])]) := by
  unfold putK
  rw [if_neg, show vkvs (T ++ [(z, r, [])]) = vkvs T ++ [((Sum.inr z : Key), V.ref r)] by unfold vkvs; rw [List.map_append]; rfl]
  intro y
  obtain ⟨x, hx, e⟩ := List.any_eq_true.mp y
  unfold vkvs at hx
  obtain ⟨e2, he, rfl⟩ := List.mem_map.mp hx
  have := of_decide_eq_true e
  exact h ((Sum.inr.inj this) ▸ List.mem_map_of_mem he)
def vbump (T : VT) (z : Str) (n : V) : VT := T.map fun x => if x.1 = z then (x.1, x.2.1, x.2.2 ++ [n]) else x
theorem vbump_keys (T : VT) (z : Str) (n : V) : (vbump T z n).map (·.1) = T.map (·.1) := by
  unfold vbump
  rw [List.map_map]
  refine List.map_congr_left fun x _ => ?_
  show (if x.1 = z then (x.1, x.2.1, x.2.2 ++ [n]) else x).1 = x.1
  split <;> rfl
theorem vbump_refs (T : VT) (z : Str) (n : V) : (vbump T z n).map (·.2.1) = T.map (·.2.1) := by
  unfold vbump
  rw [List.map_map]
  refine List.map_congr_left fun x _ => ?_
  show (if x.1 = z then (x.1, x.2.1, x.2.2 ++ [n]) else x).2.1 = x.2.1
  split <;> rfl
theorem vbump_kvs (T : VT) (z : Str) (n : V) : vkvs (vbump T z n) = vkvs T := by
  unfold vbump vkvs
  rw [List.map_map]
  refine List.map_congr_left fun x _ => ?_
  show ((Sum.inr (if x.1 = z then (x.1, x.2.1, x.2.2 ++ [n]) else x).1 : Key), V.ref (if x.1 = z then (x.1, x.2.1, x.2.2 ++ [n]) else x).2.1) = _
  split <;> rfl
theorem Vd.rne {H0 H : Hp} {D : Addr} {T : VT} (h : Vd H0 H D T) {e : Str × Addr × List V} (he : e ∈ T) : e.2.1 ≠ D := fun z => by
  have := (h.row e he).1
  rw [z, h.at_] at this
  cases this
theorem vnodup_key {T : VT} (h : (T.map (·.1)).Nodup) {e f : Str × Addr × List V} (he : e ∈ T) (hf : f ∈ T) (k : e.1 = f.1) : e = f := by
  induction T with
  | nil => cases he
  | cons a r ih =>
    rw [List.map_cons, List.nodup_cons] at h
    rcases List.mem_cons.mp he with e1 | m1 <;> rcases List.mem_cons.mp hf with e2 | m2
    · rw [e1, e2]
    · exact (h.1 (by rw [← e1, k]; exact List.mem_map_of_mem (f := fun x : Str × Addr × List V => x.1) m2)).elim
    · exact (h.1 (by rw [← e2, ← k]; exact List.mem_map_of_mem (f := fun x : Str × Addr × List V => x.1) m1)).elim
    · exact ih h.2 m1 m2
theorem vnodup_ref {T : VT} (h : (T.map (·.2.1)).Nodup) {e f : Str × Addr × List V} (he : e ∈ T) (hf : f ∈ T) (k : e.2.1 = f.2.1) : e = f := by
  induction T with
  | nil => cases he
  | cons a r ih =>
    rw [List.map_cons, List.nodup_cons] at h
    rcases List.mem_cons.mp he with e1 | m1 <;> rcases List.mem_cons.mp hf with e2 | m2
    · rw [e1, e2]
    · exact (h.1 (by rw [← e1, k]; exact List.mem_map_of_mem (f := fun x : Str × Addr × List V => x.2.1) m2)).elim
    · exact (h.1 (by rw [← e2, ← k]; exact List.mem_map_of_mem (f := fun x : Str × Addr × List V => x.2.1) m1)).elim
    · exact ih h.2 m1 m2
/-- a word more -/
theorem Vd.new {H0 H : Hp} {D : Addr} {T : VT} (h : Vd H0 H D T) {z : Str} (hz : z ∉ T.map (·.1)) {r : Addr} (nr : H r = none) : Vd H0 (upd (upd H r (.lst [])) D (.dK (vkvs (T ++ [(z, r, [])])))) D (T ++ [(z, r, [])]) := by
  have rD : r ≠ D := fun e => by rw [e, h.at_] at nr; cases nr
  refine ⟨upd_same, same_mut (h.sm.trans (same_new nr)) h.nD, h.nD, ?_, ?_, fun e m => ?_⟩
  · rw [List.map_append, List.nodup_append]
    exact ⟨h.kd, by simp, fun a ha b hb e => by rw [List.mem_singleton.mp hb] at e; exact hz (by rw [← show a = z from e]; exact ha)⟩
  · rw [List.map_append, List.nodup_append]
    refine ⟨h.rd, by simp, fun a ha b hb e => ?_⟩
    rw [List.mem_singleton.mp hb] at e
    obtain ⟨x, hx, rfl⟩ := List.mem_map.mp ha
    have := (h.row x hx).1
    rw [show x.2.1 = r from e, nr] at this
    cases this
  · rcases List.mem_append.mp m with m | m
    · rw [upd_ne (h.rne m)]
      exact ⟨same_new nr _ _ (h.row e m).1, (h.row e m).2⟩
    · rw [List.mem_singleton.mp m]
      exact ⟨by rw [upd_ne rD]; exact upd_same, h.sm.free nr⟩
/-- a number more behind a word -/
theorem Vd.app {H0 H : Hp} {D : Addr} {T : VT} (h : Vd H0 H D T) {e : Str × Addr × List V} (he : e ∈ T) (n : V) : Vd H0 (upd H e.2.1 (.lst (e.2.2 ++ [n]))) D (vbump T e.1 n) := by
  refine ⟨?_, same_mut h.sm (h.row e he).2, h.nD, by rw [vbump_keys]; exact h.kd, by rw [vbump_refs]; exact h.rd, fun x hx => ?_⟩
  · rw [upd_ne (fun z => h.rne he z.symm), vbump_kvs]
    exact h.at_
  · unfold vbump at hx
    obtain ⟨y, hy, rfl⟩ := List.mem_map.mp hx
    by_cases c : y.1 = e.1
    · have := vnodup_key h.kd hy he c
      subst this
      rw [if_pos rfl]
      exact ⟨upd_same, (h.row y hy).2⟩
    · rw [if_neg c]
      rw [upd_ne (fun z => c (congrArg (·.1) (vnodup_ref h.rd hy he z)))]
      exact h.row y hy
theorem VdOf.vbump {T : VT} {O : VOcc} {z : Str} {n : V} (hs : ∀ y, y ∈ T.map (·.1) ↔ y ∈ O.map (·.1) ∨ y = z) (hv : ∀ e ∈ T, e.2.2 = (O.filter fun o => decide (o.1 = e.1)).map (·.2)) : VdOf (SH.vbump T z n) (O ++ [(z, n)]) := by
  refine ⟨fun y => ?_, fun e he => ?_⟩
  · rw [vbump_keys, hs y, List.map_append, List.mem_append]
    exact or_congr Iff.rfl List.mem_singleton.symm
  · unfold SH.vbump at he
    obtain ⟨x, hx, rfl⟩ := List.mem_map.mp he
    rw [List.filter_append, List.map_append]
    by_cases c : x.1 = z
    · rw [if_pos c]
      show x.2.2 ++ [n] = (O.filter fun o => decide (o.1 = x.1)).map (·.2) ++ ([((z, n) : Str × V)].filter fun o => decide (o.1 = x.1)).map (·.2)
      rw [← hv x hx, List.filter_cons_of_pos (p := fun o : Str × V => decide (o.1 = x.1)) (decide_eq_true (show z = x.1 from c.symm))]
      rfl
    · rw [if_neg c]
      show x.2.2 = (O.filter fun o => decide (o.1 = x.1)).map (·.2) ++ ([((z, n) : Str × V)].filter fun o => decide (o.1 = x.1)).map (·.2)
      rw [← hv x hx, List.filter_cons_of_neg (p := fun o : Str × V => decide (o.1 = x.1)) (by simpa using fun y : z = x.1 => c y.symm)]
      exact (List.append_nil _).symm
theorem Vd.same {H0 H H' : Hp} {D : Addr} {T : VT} (s : Same H H') (h : Vd H0 H D T) : Vd H0 H' D T := ⟨s _ _ h.at_, h.sm.trans s, h.nD, h.kd, h.rd, fun e m => ⟨s _ _ (h.row e m).1, (h.row e m).2⟩⟩
end SH
set_option Elab.async false
set_option linter.all false
set_option maxRecDepth 100000
set_option maxHeartbeats 4000000
/-! dicts whose values are data: compared, and told by repr -/
namespace SH
open PySem PySem.Spec PyProof.Rows L2
section
variable {K : PySem.W.Frag} {H H' : Hp}
mutual
theorem Dp.same (e : Same H H') : ∀ (d : PyData) (v : V), Dp K H v d → Dp K H' v d
  | .none, _, h => by cases h; exact .non
  | .bool b, _, h => by cases h; exact .bl b
  | .int i, _, h => by cases h; exact .int i
  | .str x, _, h => by cases h; exact .str x
  | .list ds, _, h => by
    cases h with
    | lst a b => exact .lst (e.seq a) (DpAll.same e ds _ b)
  | .tuple ds, _, h => by
    cases h with
    | tup a b => exact .tup (same_tup e a) (DpAll.same e ds _ b)
  | .dict _, _, h => by cases h
theorem DpAll.same (e : Same H H') : ∀ (ds : List PyData) (vs : List V), DpAll K H vs ds → DpAll K H' vs ds
  | [], _, h => by cases h; exact .nil
  | d :: ds, _, h => by
    cases h with
    | cons a b => exact .cons (Dp.same e d _ a) (DpAll.same e ds _ b)
end
end
abbrev CD := List (Key × PyData)
def lookD (C : CD) (k : Key) : Option PyData := (C.find? fun c => decide (c.1 = k)).map (·.2)
def hitsD (E : CD) : CD → Bool
  | [] => true
  | c :: r => match lookD E c.1 with
    | none => false
    | some l => PyData.eqv c.2 l && hitsD E r
def RowD (K : PySem.W.Frag) (H : Hp) : List (Key × V) → CD → Prop := Paired fun p c => p.1 = c.1 ∧ Dp K H p.2 c.2 ∧ SeqAt.shaped c.2 = true
theorem RowD.look {K : PySem.W.Frag} {H : Hp} {ls : List (Key × V)} {E : CD} (h : RowD K H ls E) (k : Key) : (valV ls k = none ∧ lookD E k = none) ∨ ∃ v d, valV ls k = some v ∧ lookD E k = some d ∧ Dp K H v d ∧ SeqAt.shaped d = true := by
  unfold RowD at h
  induction h with
  | nil => exact .inl ⟨rfl, rfl⟩
  | @cons p c ps cs hh t ih =>
    obtain ⟨h1, h2, h3⟩ := hh
    by_cases e : p.1 = k
    · refine .inr ⟨p.2, c.2, valV_pos e, ?_, h2, h3⟩
      unfold lookD
      rw [List.find?_cons_of_pos (by simp [← h1, e])]
      rfl
    · rw [valV_neg e]
      unfold lookD
      rw [List.find?_cons_of_neg (by simp [← h1, e])]
      exact ih
theorem hits_dd {X : Cx} {pins : List (Addr × Obj)} {σ : L2.St} {H : Hp} {s : Shared} (I : Inv X pins σ H s) {A : Around} (hu : A.units + 64 < cLine) {ls : List (Key × V)} {vb : List (Key × Value)} (rb : KV ls vb) {E : CD} (hE : RowD X.K H ls E) :
    ∀ {C : CD} {ks : List (Key × V)} {va : List (Key × Value)}, KV ks va → RowD X.K H ks C → PySem.W.KeqHits A s vb va (hitsD E C)
  | [], _, _, ra, h => by
    cases h
    cases ra
    exact .nil
  | c :: r, _, _, ra, h => by
    cases h with
    | @cons p _ ps _ hh t =>
      cases ra with
      | @cons _ q _ qs rr rt =>
        obtain ⟨h1, h2, h3⟩ := hh
        obtain ⟨r1, r2⟩ := rr
        have ih := hits_dd I hu rb hE (C := r) rt t
        obtain ⟨key, v⟩ := q
        have ek : key = c.1 := by rw [← h1]; exact r1.symm
        have rv := rb.val c.1
        unfold hitsD
        rcases hE.look c.1 with ⟨n1, n2⟩ | ⟨y, d, n1, n2, n3, n4⟩
        · rw [n2]
          rw [n1] at rv
          exact .miss (by rw [ek]; exact rv.none_of)
        · rw [n2]
          rw [n1] at rv
          obtain ⟨u, hu2, ru⟩ := rv.some_of
          obtain ⟨as, ra1⟩ := Dp.reads I c.2 p.2 v h2 r2
          obtain ⟨bs, rb1⟩ := Dp.reads I d y u n3 ru
          exact .hit (by rw [ek]; exact hu2) (SeqAt.eqAt_reads c.2 d A s v u as bs ra1 rb1 (SeqAt.canLay_of_shaped h3) (SeqAt.canLay_of_shaped n4) (SeqAt.room_of_shaped h3 hu)) ih
def sameD (C E : CD) : Bool := decide (C.length = E.length) && hitsD E C
def rEqDD (K : PySem.W.Frag) : R2 := fun x y H Q => ∃ a b ks ls C E, x = .ref a ∧ y = .ref b ∧ H a = some (.dK ks) ∧ H b = some (.dK ls) ∧ RowD K H ks C ∧ RowD K H ls E ∧ Q (.bl (sameD C E)) H
def rNeDD (K : PySem.W.Frag) : R2 := fun x y H Q => ∃ a b ks ls C E, x = .ref a ∧ y = .ref b ∧ H a = some (.dK ks) ∧ H b = some (.dK ls) ∧ RowD K H ks C ∧ RowD K H ls E ∧ Q (.bl (!sameD C E)) H
section
variable {X : Cx}
theorem op_eqDD0 (hu : X.A.units + 66 < cLine) : OpR X (compareOp .Eq) (rEqDD X.K) := by
  intro pins s σ H x y v u Q I rx ry h
  obtain ⟨a, b, ks, ls, C, E, rfl, rfl, ea, eb, h1, h2, q⟩ := h
  obtain rfl : v = Value.ref a := rx
  obtain rfl : u = Value.ref b := ry
  obtain ⟨_, ya, va, ra, da⟩ := (show ObjOk X.prog X.w H s.heap a (.dK ks) from I.hok a _ ea)
  obtain ⟨_, yb, vb, rb, db⟩ := (show ObjOk X.prog X.w H s.heap b (.dK ls) from I.hok b _ eb)
  have l1 : va.length = C.length := by rw [← ra.length]; exact Paired.length h1
  have l2 : vb.length = E.length := by rw [← rb.length]; exact Paired.length h2
  exact PySem.W.keq_eq (knd := mixKind X.prog X.w) (r := hitsD E C) ya yb da db (by omega) (fun _ => hits_dd I (A := X.A.in1) (by show X.A.units + 1 + 64 < cLine; omega) rb h2 ra h1) (fin_bl I q (by unfold sameD; rw [l1, l2]; congr 1))
theorem op_neDD0 (hu : X.A.units + 66 < cLine) : OpR X (compareOp .NotEq) (rNeDD X.K) := by
  intro pins s σ H x y v u Q I rx ry h
  obtain ⟨a, b, ks, ls, C, E, rfl, rfl, ea, eb, h1, h2, q⟩ := h
  obtain rfl : v = Value.ref a := rx
  obtain rfl : u = Value.ref b := ry
  obtain ⟨_, ya, va, ra, da⟩ := (show ObjOk X.prog X.w H s.heap a (.dK ks) from I.hok a _ ea)
  obtain ⟨_, yb, vb, rb, db⟩ := (show ObjOk X.prog X.w H s.heap b (.dK ls) from I.hok b _ eb)
  have l1 : va.length = C.length := by rw [← ra.length]; exact Paired.length h1
  have l2 : vb.length = E.length := by rw [← rb.length]; exact Paired.length h2
  exact PySem.W.keq_ne (knd := mixKind X.prog X.w) (r := hitsD E C) ya yb da db (by omega) (fun _ => hits_dd I (A := X.A.in1) (by show X.A.units + 1 + 64 < cLine; omega) rb h2 ra h1) (fin_bl I q (by unfold sameD; rw [l1, l2]; congr 2))
end
theorem op_eqDDK {X : Cx} {K : PySem.W.Frag} {k : Nat} (hr : Room k X.A) (h : X.K = K := by rfl) : OpR X (compareOp .Eq) (rEqDD K) := h ▸ op_eqDD0 (by have := hr.un; omega)
theorem op_neDDK {X : Cx} {K : PySem.W.Frag} {k : Nat} (hr : Room k X.A) (h : X.K = K := by rfl) : OpR X (compareOp .NotEq) (rNeDD K) := h ▸ op_neDD0 (by have := hr.un; omega)
/-! ### repr -/
def dKey : Key → PyData
  | .inl i => .int i
  | .inr z => .str z
def dDict (C : CD) : PyData := .dict (C.map fun c => (dKey c.1, c.2))
def KOk : Key → Prop
  | .inl i => i.natAbs < 10 ^ 12
  | .inr z => PyData.strOk z = true ∧ z.length ≤ 60
/-- a thing told: without a dict, or a dict of such -/
inductive Rp (K : PySem.W.Frag) (H : Hp) : V → PyData → Nat → Prop
  | flat {v : V} {d : PyData} {n w : Nat} : Dp K H v d → Shw d n w → n ≤ 50 → Rp K H v d w
  | dict {a : Addr} {kvs : List (Key × V)} {C : CD} {n w : Nat} : H a = some (.dK kvs) → Paired (fun p c => p.1 = c.1 ∧ Dp K H p.2 c.2) kvs C → (∀ c ∈ C, KOk c.1 ∧ Shw c.2 n w) → n ≤ 50 → Rp K H (.ref a) (dDict C) (C.length * (w + 62))
theorem key_shw : ∀ {k : Key}, KOk k → Shw (dKey k) 0 60
  | .inl i, h => (shw_int h).mono (Nat.le_refl _) (by decide)
  | .inr z, h => (shw_str h.1).mono (Nat.le_refl _) h.2
theorem Shw.leaves {d : PyData} {n w : Nat} (h : Shw d n w) : d.leavesShort 13 = true := PyData.leavesShort_of_canLay0 13 d h.lay h.sint
theorem kv_all {n w : Nat} : ∀ {C : CD}, (∀ c ∈ C, KOk c.1 ∧ Shw c.2 n w) → PyData.leavesShortKv 13 (C.map fun c => (dKey c.1, c.2)) = true ∧ PyData.depthKv (C.map fun c => (dKey c.1, c.2)) ≤ n ∧ PyData.weightKv (C.map fun c => (dKey c.1, c.2)) ≤ C.length * (w + 62) ∧ PyData.showableKv (C.map fun c => (dKey c.1, c.2)) = true ∧
    PyData.hasDictAll ((C.map fun c => (dKey c.1, c.2)).map (·.1)) = false ∧ PyData.hasDictAll ((C.map fun c => (dKey c.1, c.2)).map (·.2)) = false
  | [], _ => ⟨rfl, Nat.zero_le _, Nat.zero_le _, rfl, rfl, rfl⟩
  | c :: r, h => by
    obtain ⟨h1, h2⟩ := h c (List.mem_cons_self ..)
    obtain ⟨a1, a2, a3, a4, a5, a6⟩ := kv_all fun x m => h x (List.mem_cons_of_mem _ m)
    have k1 := key_shw h1
    have k2 := k1.deep
    have k3 := k1.wt
    have b2 := h2.deep
    have b3 := h2.wt
    simp only [List.map_cons]
    refine ⟨?_, ?_, ?_, ?_, ?_, ?_⟩
    · rw [PyData.leavesShortKv, k1.leaves, h2.leaves, a1]; rfl
    · rw [PyData.depthKv]; omega
    · rw [PyData.weightKv, List.length_cons, Nat.succ_mul]; omega
    · rw [PyData.showableKv, k1.shows, h2.shows, a4]; rfl
    · rw [PyData.hasDictAll, k1.nd, a5]; rfl
    · rw [PyData.hasDictAll, h2.nd, a6]; rfl
/-- what holds of such a thing -/
structure RpOk (d : PyData) (w : Nat) : Prop where
  lv : d.leavesShort 13 = true
  dp : d.depth ≤ 51
  wt : d.weight ≤ w
  sh : d.showable = true
theorem Rp.ok {K : PySem.W.Frag} {H : Hp} {v : V} {d : PyData} {w : Nat} (h : Rp K H v d w) : RpOk d w := by
  cases h with
  | flat h1 h2 h3 => exact ⟨h2.leaves, Nat.le_trans h2.deep (by omega), h2.wt, h2.shows⟩
  | @dict a kvs C n w h1 h2 h3 h4 =>
    obtain ⟨a1, a2, a3, a4, _⟩ := kv_all h3
    unfold dDict
    refine ⟨?_, ?_, ?_, ?_⟩
    · rw [PyData.leavesShort]; exact a1
    · rw [PyData.depth]; omega
    · rw [PyData.weight]; exact a3
    · rw [PyData.showable]; exact a4
theorem pairs_reads {X : Cx} {pins : List (Addr × Obj)} {σ : L2.St} {H : Hp} {s : Shared} (I : Inv X pins σ H s) : ∀ {C : CD} {es : List DictEntry} {vs : List (Key × Value)} {kvs : List (Key × V)}, Pairs (mixKind X.prog X.w) es vs → KV kvs vs → Paired (fun p c => p.1 = c.1 ∧ Dp X.K H p.2 c.2) kvs C →
    (∃ as, ReadsAll s.heap (es.map (·.key)) ((C.map fun c => (dKey c.1, c.2)).map (·.1)) as) ∧ ∃ bs, ReadsAll s.heap (es.map (·.val)) ((C.map fun c => (dKey c.1, c.2)).map (·.2)) bs
  | [], _, _, _, hp, r, h => by
    cases h
    cases r
    cases hp
    exact ⟨⟨_, .nil⟩, ⟨_, .nil⟩⟩
  | c :: C, _, _, _, hp, r, h => by
    cases h with
    | @cons p _ ps _ hh t =>
      cases r with
      | @cons _ q _ qs rr rt =>
        cases hp with
        | @cons e _ es _ h1 h2 h3 =>
          obtain ⟨⟨as, r1⟩, ⟨bs, r2⟩⟩ := pairs_reads I h3 rt t
          obtain ⟨cs, r3⟩ := Dp.reads I c.2 p.2 q.2 hh.2 rr.2
          have hk : Reads s.heap e.key (dKey c.1) [] := by
            rw [← hh.1, rr.1]
            rcases keyIs_shape (show keyIs q.1 e.key = true from h1) with ⟨i, t, e1, e2⟩ | ⟨z, t, e1, e2⟩
            · rw [e1, e2]; exact .int i t
            · rw [e1, e2]; exact .str z t
          exact ⟨⟨_, .cons hk r1⟩, ⟨_, .cons (by show Reads s.heap e.val c.2 cs; rw [h2]; exact r3) r2⟩⟩
theorem Rp.run {X : Cx} {pins : List (Addr × Obj)} {σ : L2.St} {H : Hp} {s : Shared} (I : Inv X pins σ H s) {v : V} {d : PyData} {u : Value} {w : Nat} (h : Rp X.K H v d w) (r : RelV v u) (hz : d.shown.length ≤ sizeLine) :
    (∃ as, Reads s.heap u d as) ∧ ∃ bs, ReadAtMost s.heap d.depth bs ∧ ReprK X.prog X.w bs s.heap d.depth u d.shown := by
  cases h with
  | flat h1 h2 h3 =>
    obtain ⟨as, rd⟩ := Dp.reads I d v u h1 r
    exact ⟨⟨_, rd⟩, ReprK.of_reads rd h2.shows (PyData.noDict_hsm h2.nd) hz⟩
  | @dict a kvs C n w h1 h2 h3 h4 =>
    obtain rfl : u = Value.ref a := r
    obtain ⟨_, hsys, vs, rv, da⟩ := (show ObjOk X.prog X.w H s.heap a (.dK kvs) from I.hok a _ h1)
    obtain ⟨o, es, ep, ho, hx, hd, _, hp, _⟩ := da
    obtain ⟨⟨as₁, r4⟩, ⟨bs₁, r5⟩⟩ := pairs_reads I hp rv h2
    obtain ⟨_, a2, _, a4, a5, a6⟩ := kv_all h3
    have rd : Reads s.heap (.ref a) (dDict C) _ := .dict ho hx.1 hd r4 r5
    refine ⟨⟨_, rd⟩, ?_⟩
    unfold dDict at hz rd ⊢
    generalize eC : (C.map fun c => (dKey c.1, c.2)) = kvd at *
    have hz' : (dictText (PyData.shownKv kvd)).length ≤ sizeLine := by simpa only [PyData.shown] using hz
    obtain ⟨hs1, hs2⟩ := PyData.showableKv_split kvd a4
    obtain ⟨b1, hb1, k1⟩ := ReprAllK.of_readsAll (prog := X.prog) (w := X.w) r4 hs1 (fun hm => by rw [a5] at hm; cases hm) (fun t ht => let ⟨p, hp, hl⟩ := PyData.shownKv_key_le kvd t ht; Nat.le_trans hl (Nat.le_trans (dictText_mem_le hp) hz'))
    obtain ⟨b2, hb2, k2⟩ := ReprAllK.of_readsAll (prog := X.prog) (w := X.w) r5 hs2 (fun hm => by rw [a6] at hm; cases hm) (fun t ht => let ⟨p, hp, hl⟩ := PyData.shownKv_val_le kvd t ht; Nat.le_trans hl (Nat.le_trans (dictText_mem_le hp) hz'))
    have hb : ReadAtMost s.heap (PyData.depthKv kvd) (b1 ++ b2) := (hb1.mono (PyData.depthAll_keys_le kvd)).append (hb2.mono (PyData.depthAll_vals_le kvd))
    have hna : a ∉ b1 ++ b2 := not_mem_of_deeper rd (by simp only [PyData.depth]; omega) hb
    refine ⟨a :: (b1 ++ b2), ReadAtMost.cons rd (by simp only [PyData.depth]; omega) hb, ?_⟩
    simp only [PyData.depth, PyData.shown, PyData.shownKv_eq]
    exact ReprK.dict ho hx.1 hd hsys hna (ReprEntriesK.of_two es.toList _ _
      (k1.more_le (fun b hb => List.mem_append_left _ hb) (PyData.depthAll_keys_le kvd)) (k2.more_le (fun b hb => List.mem_append_right _ hb) (PyData.depthAll_vals_le kvd)))
/-- things side by side, of so much weight -/
inductive RpAll (K : PySem.W.Frag) (H : Hp) : List V → List PyData → Nat → Prop
  | nil : RpAll K H [] [] 0
  | cons {v : V} {vs : List V} {d : PyData} {ds : List PyData} {w n : Nat} : Rp K H v d w → RpAll K H vs ds n → RpAll K H (v :: vs) (d :: ds) (w + 1 + n)
theorem RpAll.ok {K : PySem.W.Frag} {H : Hp} {vs : List V} {ds : List PyData} {w : Nat} (h : RpAll K H vs ds w) : PyData.leavesShortAll 13 ds = true ∧ PyData.depthAll ds ≤ 51 ∧ PyData.weightAll ds ≤ w ∧ PyData.showableAll ds = true := by
  induction h with
  | nil => exact ⟨rfl, Nat.zero_le _, Nat.zero_le _, rfl⟩
  | cons h1 _ ih =>
    obtain ⟨b1, b2, b3, b4⟩ := h1.ok
    obtain ⟨a1, a2, a3, a4⟩ := ih
    refine ⟨?_, ?_, ?_, ?_⟩
    · rw [PyData.leavesShortAll, b1, a1]; rfl
    · rw [PyData.depthAll]; omega
    · rw [PyData.weightAll]; omega
    · rw [PyData.showableAll, b4, a4]; rfl
theorem RpAll.run {X : Cx} {pins : List (Addr × Obj)} {σ : L2.St} {H : Hp} {s : Shared} (I : Inv X pins σ H s) {vs : List V} {ds : List PyData} {w : Nat} (h : RpAll X.K H vs ds w) : ∀ {us : List Value}, Vals vs us → (∀ t ∈ PyData.shownAll ds, t.length ≤ sizeLine) →
    (∃ as, ReadsAll s.heap us ds as) ∧ ∃ bs, ReadAtMost s.heap (PyData.depthAll ds) bs ∧ ReprAllK X.prog X.w bs s.heap (PyData.depthAll ds) us (PyData.shownAll ds) := by
  induction h with
  | nil =>
    intro us r hz
    cases r
    exact ⟨⟨_, .nil⟩, [], (fun _ h => nomatch h), by simp only [PyData.shownAll]; exact .nil⟩
  | @cons v vs d ds w n h1 h2 ih =>
    intro us r hz
    cases r with
    | @cons _ u _ us r1 r2 =>
      obtain ⟨⟨as, q1⟩, b1, hb1, k1⟩ := h1.run I r1 (hz _ (by simp only [PyData.shownAll]; exact List.mem_cons_self ..))
      obtain ⟨⟨bs, q2⟩, b2, hb2, k2⟩ := ih r2 (fun t ht => hz t (by simp only [PyData.shownAll]; exact List.mem_cons_of_mem _ ht))
      refine ⟨⟨_, .cons q1 q2⟩, b1 ++ b2, ?_, ?_⟩
      · intro b hm
        simp only [PyData.depthAll]
        rcases List.mem_append.mp hm with hm | hm
        · obtain ⟨d', as', r', hd'⟩ := hb1 b hm
          exact ⟨d', as', r', Nat.le_trans hd' (Nat.le_max_left _ _)⟩
        · obtain ⟨d', as', r', hd'⟩ := hb2 b hm
          exact ⟨d', as', r', Nat.le_trans hd' (Nat.le_max_right _ _)⟩
      · simp only [PyData.depthAll, PyData.shownAll]
        exact .cons ((k1.more fun b hb => List.mem_append_left _ hb).level_le (Nat.le_max_left _ _)) (k2.more_le (fun b hb => List.mem_append_right _ hb) (Nat.le_max_right _ _))
/-- repr of a tuple of such things -/
def rReprD (K : PySem.W.Frag) : List V → Hp → VK → Prop := fun vs H Q => ∃ (a : Addr) (xs : List V) (ds : List PyData) (w : Nat), vs = [.ref a] ∧ SqT K H a xs ∧ RpAll K H xs ds w ∧ w ≤ 1048576 ∧ Q (.str (PyData.shown (.tuple ds))) H
theorem call_reprD {X : Cx} {K : PySem.W.Frag} (hg : X.A.guards = some []) (hu : X.A.units + 64 < cLine) (h : X.K = K := by rfl) : CallR X (.builtin "repr") (rReprD K) := by
  subst h
  intro pins s σ H vs us Q I r q
  obtain ⟨a, xs, ds, w, rfl, hT, hD, hw, q⟩ := q
  rw [Vals.ref1 r]
  obtain ⟨its, rv, ⟨o, h1, h2, n, h3⟩, _⟩ := I.tuple hT
  obtain ⟨b1, b2, b3, b4⟩ := hD.ok
  have hz : (PyData.shown (.tuple ds)).length ≤ sizeLine := PyData.shown_fits (B := 13) (by decide) (by decide) (by rw [PyData.leavesShort]; exact b1) (by rw [PyData.weight]; exact Nat.le_trans (Nat.le_trans b3 hw) (by decide))
  have hz' : (tupleText (PyData.shownAll ds)).length ≤ sizeLine := by simpa only [PyData.shown] using hz
  obtain ⟨⟨as, h4⟩, bs, hb, hk⟩ := hD.run I rv (fun t ht => Nat.le_trans (tupleText_mem_le ht) hz')
  have hna : a ∉ bs := not_mem_of_deeper (.tuple h1 h2 h3 h4) (by simp only [PyData.depth]; omega) hb
  refine call_repr_slot (A := X.A) (v := Value.ref a) (T := "tuple") (idr := "tuple.__repr__") (s := s) (by omega) (show Shared.TypeIs s (.ref a) "tuple" from ⟨o, h1, h2⟩) PySem.F.slot_tuple_repr ?_
  refine call_tuple_reprK h1 h2 h3 hna hk hg (fun b _ => Clear.nil b) (by show X.A.units + 1 + (PyData.depthAll ds + 1) < cLine; omega) (fun _ _ e => e) (fun h' u tk keep => ?_) hz'
  refine ⟨_, _, rfl, .str (PyData.shown (.tuple ds)), H, I.kept keep, ⟨u, ?_⟩, q⟩
  simp only [PyData.shown]
theorem pe_orTK {X : Cx} {K : PySem.W.Frag} {a b : Expr} {rest : List Expr} {pos : Pos} {ta tb : TE} (ha : PE X a ta) (hb : PE X (.BoolOp .Or (b :: rest) pos) tb) (h : X.K = K := by rfl) : PE X (.BoolOp .Or (a :: b :: rest) pos) (tOrT K ta tb) := h ▸ pe_orT ha hb
end SH
set_option Elab.async false
set_option linter.all false
set_option maxRecDepth 100000
set_option maxHeartbeats 4000000
/-! sets of numbers and texts: made, walked, sorted -/
namespace SH
open PySem PySem.Spec PyProof.Rows L2
def keyM (e : Int × Value) : Key := match e.2 with | .int k _ => .inl k | .str x _ => .inr x | _ => .inl 0
def GoodM (w : World) (e : Int × Value) : Prop := ∃ k : Key, RelV (kV k) e.2 ∧ e.1 = keyH w k
theorem keyM_of {h : Int} {k : Key} {u : Value} (r : RelV (kV k) u) : keyM (h, u) = k := by
  cases k with
  | inl i =>
    obtain ⟨t, rfl⟩ := r
    rfl
  | inr x =>
    obtain ⟨t, rfl⟩ := r
    rfl
/-- the set of keys at a: S its members, n their number; its table rises and can be walked -/
def SetM (w : World) (h : Heap) (a : Addr) (S : Key → Bool) (n : Nat) : Prop :=
  ∃ o es ep t, h.get? a = some o ∧ o.ExactSet ∧ o.data = .set es ep t ∧ (∀ e ∈ es.toList, GoodM w e) ∧ (es.toList.map keyM).Nodup ∧ (∀ k, S k = true ↔ k ∈ es.toList.map keyM) ∧
    es.size < scanBound ∧ t.fits es.size = true ∧ es.size = n ∧ Ris t.place.toList ∧ (w.params.followText "set-order" = true ∨ t.led = true)
section
variable {P : Program} {w : World} {h h' : Heap} {a : Addr} {S : Key → Bool} {n : Nat}
theorem SetM.at (R : SetM w h a S n) (k : ∀ o, h.get? a = some o → h'.get? a = some o) : SetM w h' a S n := by
  obtain ⟨o, es, ep, t, ho, r⟩ := R
  exact ⟨o, es, ep, t, k o ho, r⟩
theorem SetM.lt (R : SetM w h a S n) : a < h.objs.size := by
  obtain ⟨o, es, ep, t, ho, r⟩ := R
  exact Heap.lt_size ho
theorem goodM_elems {l : List (Int × Value)} (g : ∀ e ∈ l, GoodM w e) : ElemsOf (mixKind P w) l := fun e he => by
  obtain ⟨k, h1, h2⟩ := g e he
  exact ⟨⟨k, kV_is h1, h2⟩, key_scan h1⟩
theorem goodM_is {e : Int × Value} (g : GoodM w e) (k : Key) : (mixKind P w).is k e.2 = true ↔ keyM e = k := by
  obtain ⟨k0, h1, _⟩ := g
  have e0 : keyM e = k0 := by
    obtain ⟨x, u⟩ := e
    exact keyM_of h1
  rw [e0]
  constructor
  · intro h
    exact (mixKind P w).inj _ _ _ (kV_is h1) h
  · rintro rfl
    exact kV_is h1
theorem goodM_mem {l : List (Int × Value)} (g : ∀ e ∈ l, GoodM w e) (k : Key) : k ∈ l.map keyM ↔ ∃ e ∈ l, (mixKind P w).is k e.2 = true := by
  rw [List.mem_map]
  constructor
  · rintro ⟨e, he, q⟩
    exact ⟨e, he, (goodM_is (g e he) k).2 q⟩
  · rintro ⟨e, he, q⟩
    exact ⟨e, he, (goodM_is (g e he) k).1 q⟩
theorem SetM.setOf (R : SetM w h a S n) : h.SetOf (mixKind P w) a S n := by
  obtain ⟨o, es, ep, t, ho, hx, hd, g, nd, hm, hb, hf, hn, _⟩ := R
  exact ⟨o, es, ep, t, ho, hx, hd, goodM_elems g, fun k => (hm k).trans (goodM_mem g k), hb, hf, hn⟩
end
section
variable {P : Program} {w : World} {A : Around} {E : Value → Shared → Prop} {s : Shared} {a : Addr} {S : Key → Bool} {n : Nat}
theorem setM_add_tail {g : Bool → Sem Unit} (hg : ∀ (b : Bool) (s₁ : Shared) (Q' : Unit → Shared → Prop), Q' () s₁ → wpAny (model P w) A (g b) Q' E s₁)
    {o : Obj} {es : Array (Int × Value)} {ep : Nat} {t : SetTable} (ho : s.heap.get? a = some o) (hex : o.ExactSet) (hd : o.data = .set es ep t)
    {es1 : Array (Int × Value)} {t2 : SetTable} {S' : Key → Bool} (g1 : ∀ e ∈ es1.toList, GoodM w e) (nd1 : (es1.toList.map keyM).Nodup) (m1 : ∀ k, S' k = true ↔ k ∈ es1.toList.map keyM)
    (hb1 : es1.size < scanBound) (hf2 : t2.fits es1.size = true) (hr : Ris t2.place.toList) (hl : w.params.followText "set-order" = true ∨ t2.led = true) {wasDummy : Bool} {R : Option Bool → Shared → Prop}
    (hR : ∀ h', Heap.SameBut a s.heap h' → SetM w h' a S' es1.size → R (some true) { s with heap := h' }) :
    wpAny (model P w) A (do
        storeSet a es1 t2
        if (!wasDummy && t2.tooFull) = true then do
            g (relayAll t2 es1 (SetTable.grown es1.size)).2.2
            storeSet a (relayAll t2 es1 (SetTable.grown es1.size)).1 (relayAll t2 es1 (SetTable.grown es1.size)).2.1
            pure (some true)
          else pure (some true)) R E s := by
  refine wpAny_bind (wpAny_storeSet_of ho hd ?_ (fits_of_scanBound hb1))
  have ho1 := store_at (es' := es1) (t' := t2) ho hd
  have sb1 := Heap.SameBut.update s.heap a (Obj.putSet es1 t2)
  split
  · have pm := relayAll_perm t2 es1 (SetTable.grown es1.size)
    have hf3 := relayAll_fits t2 es1 (SetTable.grown es1.size)
    have hr3 := relayAll_ris t2 es1 (SetTable.grown es1.size)
    have hl3 := relayAll_led t2 es1 (SetTable.grown es1.size)
    generalize relayAll t2 es1 (SetTable.grown es1.size) = Z at pm hf3 hr3 hl3 ⊢
    obtain ⟨es2, t3, gave⟩ := Z
    dsimp only at pm hf3 hr3 hl3 ⊢
    have hsz : es2.size = es1.size := by rw [← Array.length_toList, pm.length_eq, Array.length_toList]
    have hb2 : es2.size < scanBound := by rw [hsz]; exact hb1
    refine wpAny_bind (hg _ _ _ ?_)
    refine wpAny_bind (wpAny_storeSet_of ho1 rfl ?_ (fits_of_scanBound hb2))
    have ho2 := store_at (es' := es2) (t' := t3) ho1 rfl
    refine wpAny_pure (hR _ (sb1.trans (Heap.SameBut.update _ a _)) ?_)
    exact ⟨_, es2, _, t3, ho2, hex, rfl, fun e he => g1 e (pm.mem_iff.mp he), (pm.map keyM).nodup_iff.mpr nd1, fun k => (m1 k).trans (pm.map keyM).mem_iff.symm, hb2, hf3, hsz, hr3,
      hl.imp id fun z => by rw [hl3]; exact z⟩
  · exact wpAny_pure (hR _ sb1 ⟨_, es1, _, t2, ho1, hex, rfl, g1, nd1, m1, hb1, hf2, rfl, hr, hl⟩)
theorem setM_add_hashed {k : Key} {u : Value} {Q : Bool → Shared → Prop} (ru : RelV (kV k) u) (R : SetM w s.heap a S n) (room : n + 1 < scanBound)
    (hQ : ∀ h', Heap.SameBut a s.heap h' → SetM w h' a (fun j => S j || decide (j = k)) (if S k = true then n else n + 1) → Q (!S k) { s with heap := h' }) :
    wpAny (model P w) A (setAddHashed a u ((mixKind P w).hash k)) Q E s := by
  obtain ⟨o, es, ep, t, ho, hex, hd, g, nd, hm, hb, hf, hn, hr, hl⟩ := R
  have hkey : (mixKind P w).is k u = true := kV_is ru
  have hsc : u.scannable = true := key_scan ru
  have hel : ElemsOf (mixKind P w) es.toList := goodM_elems g
  unfold setAddHashed setAddHashedIn
  refine wpAny_holding (wpAny_bind (wpAny_setState_of ho hd hf ?_))
  dsimp only
  rw [byScan_of hsc hb hel]
  simp only [↓reduceIte]
  unfold setAddByScan
  refine wpAny_bind ?_
  refine wpAny_bind (wpAny_rule ?_)
  refine wpAny_bind (wpAny_setScan_of hkey ho hd hf hel ?_)
  cases hfi : List.findIdx? (fun e => (mixKind P w).is k e.2) es.toList with
  | some j =>
    dsimp only
    obtain ⟨hj, pj, _⟩ := List.findIdx?_eq_some_iff_getElem.mp hfi
    have hSk : S k = true := (hm k).2 ((goodM_mem (P := P) (w := w) g k).2 ⟨es.toList[j], List.getElem_mem hj, pj⟩)
    refine wpAny_pure (wpAny_pure ?_)
    have q := hQ s.heap (Heap.SameBut.refl a s.heap) ⟨o, es, ep, t, ho, hex, hd, g, nd, fun i => by
      rw [Bool.or_eq_true, decide_eq_true_eq, ← hm i]
      exact ⟨fun z => z.elim id (fun e => e ▸ hSk), .inl⟩, hb, hf, by rw [if_pos hSk]; exact hn, hr, hl⟩
    rw [hSk] at q
    exact q
  | none =>
    dsimp only
    have hnk : k ∉ es.toList.map keyM := fun z => by
      obtain ⟨e, he, q⟩ := (goodM_mem (P := P) (w := w) g k).1 z
      have c := List.findIdx?_eq_none_iff.mp hfi e he
      rw [q] at c
      cases c
    have hSk : S k = false := by
      cases q : S k with
      | false => rfl
      | true => exact absurd ((hm k).1 q) hnk
    have hgw : ∀ (b : Bool) {s₁ : Shared} {Q' : Unit → Shared → Prop}, Q' () s₁ → wpAny (model P w) A (match b with | true => rule "set.scan.the-table-gave-way" | false => pure ()) Q' E s₁ :=
      fun b s₁ Q' q => by cases b <;> first | exact wpAny_pure q | exact wpAny_rule q
    have pm := layNew_perm t es ((mixKind P w).hash k) u
    have hf1 := layNew_fits t es ((mixKind P w).hash k) u
    have hr1 := layNew_ris t es ((mixKind P w).hash k) u hr
    have hl1 := layNew_led t es ((mixKind P w).hash k) u
    generalize layNew t es ((mixKind P w).hash k) u = Z at pm hf1 hr1 hl1 ⊢
    obtain ⟨es1, t1, wasDummy, gave⟩ := Z
    dsimp only at pm hf1 hr1 hl1 ⊢
    rw [Array.toList_push] at pm
    have pc : es1.toList.Perm (((mixKind P w).hash k, u) :: es.toList) := pm.trans (List.perm_append_singleton _ _)
    have pk : (es1.toList.map keyM).Perm (k :: es.toList.map keyM) := by
      have q := pc.map keyM
      rw [List.map_cons, keyM_of ru] at q
      exact q
    have g1 : ∀ e ∈ es1.toList, GoodM w e := fun e he => by
      rcases List.mem_cons.mp (pc.mem_iff.mp he) with z | z
      · rw [z]; exact ⟨k, ru, rfl⟩
      · exact g e z
    have nd1 : (es1.toList.map keyM).Nodup := pk.nodup_iff.mpr (List.nodup_cons.mpr ⟨hnk, nd⟩)
    have m1 : ∀ i, (S i || decide (i = k)) = true ↔ i ∈ es1.toList.map keyM := fun i => by
      rw [Bool.or_eq_true, decide_eq_true_eq, hm i, pk.mem_iff, List.mem_cons]
      exact Or.comm
    have hsz : es1.size = n + 1 := by rw [← Array.length_toList, pc.length_eq, List.length_cons, Array.length_toList, hn]
    have hb1 : es1.size < scanBound := by rw [hsz]; exact room
    have hled : w.params.followText "set-order" = true ∨ t1.led = true := hl.imp id fun z => by rw [hl1]; exact z
    have fin : ∀ h', Heap.SameBut a s.heap h' → SetM w h' a (fun j => S j || decide (j = k)) es1.size → Q true { s with heap := h' } := fun h' sb r => by
      have q := hQ h' sb
      rw [hSk] at q
      rw [hsz] at r
      exact q r
    refine wpAny_bind (hgw _ ?_)
    split
    · refine wpAny_bind ?_
      rw [hashByValue_scannable 8 hsc]
      refine wpAny_pure ?_
      refine setM_add_tail ?_ ho hex hd g1 nd1 m1 hb1 ?_ ?_ ?_ ?_
      · intro b s₁ Q' q; cases b <;> first | exact wpAny_pure q | exact wpAny_rule q
      · first | (split <;> first | exact hf1 | exact SetTable.fits_plain_off hf1) | exact hf1
      · first | (split <;> exact hr1) | exact hr1
      · first | (split <;> exact hled) | exact hled
      · intro h' sb r; dsimp only; exact wpAny_pure (fin h' sb r)
    · refine wpAny_bind (wpAny_pure ?_)
      simp only [↓reduceIte]
      refine setM_add_tail ?_ ho hex hd g1 nd1 m1 hb1 hf1 hr1 hled ?_
      · intro b s₁ Q' q; cases b <;> first | exact wpAny_pure q | exact wpAny_rule q
      · intro h' sb r; dsimp only; exact wpAny_pure (fin h' sb r)
/-- found.add(k) -/
theorem setM_add {k : Key} {u : Value} {Q : Value → Shared → Prop} (ru : RelV (kV k) u) (R : SetM w s.heap a S n) (room : n + 1 < scanBound)
    (hQ : ∀ h', Heap.SameBut a s.heap h' → SetM w h' a (fun j => S j || decide (j = k)) (if S k = true then n else n + 1) → Q .none { s with heap := h', toks := s.toks + 1 }) :
    wpAny (model P w) A (call (.builtin "set.add") [.ref a, u]) Q E s := by
  have hS : s.heap.SetOf (mixKind P w) a S n := R.setOf
  refine wpAny_call_entry F.slot_set_add hS.typeIs F.entry_set_add ?_ (F.args_set_add_2 _ _)
  unfold Builtin.«set.add» Builtin.Frozenset.oneOther
  simp only [List.isEmpty_nil, bind_assoc]
  unfold Builtin.Frozenset.addrOf setAdd
  refine wpAny_bind (wpAny_pure ?_)
  try dsimp only
  refine wpAny_bind (wpAny_pure ?_)
  try dsimp only
  refine wpAny_bind ?_
  refine wpAny_holding ?_
  refine wpAny_bind ((mixKind P w).pyHash (kV_is ru) ?_)
  refine setM_add_hashed (s := { s with toks := s.toks + 1 }) ru R room fun h' sb r => ?_
  show wpAny _ _ (ret Value.none) _ _ _
  exact wpAny_pure ⟨_, rfl, hQ h' sb r⟩
theorem setM_fresh {h : Heap} (w : World) : SetM w (h.push { cls := .type "set", dict := none, data := .set #[] 0 (.fresh 0 0 (!w.params.followText "set-order")) }) h.objs.size (fun _ => false) 0 :=
  ⟨_, #[], 0, _, Heap.get?_push_size _ rfl, ⟨rfl, rfl, rfl⟩, rfl, (fun e he => by simp at he), (by simp), (fun k => by simp), (by decide), (by rfl), rfl, List.Pairwise.nil, by
    show _ ∨ (!w.params.followText "set-order") = true
    cases w.params.followText "set-order"
    · exact .inr rfl
    · exact .inl rfl⟩
end
/-- the set of keys at a, tracked -/
def SetMO (w : World) (a : Addr) (S : Key → Bool) (n : Nat) : HO := .ext fun h => SetM w h a S n
theorem setMO_new {w : World} {P : Program} {H : Hp} {h : Heap} {a : Addr} {S : Key → Bool} {n : Nat} (R : SetM w h a S n) : ObjOk P w H h a (SetMO w a S n) := by
  have ⟨o, _, _, _, ho, _⟩ := R
  exact ⟨R, ⟨o, ho⟩, fun h1 h2 p k => SetM.at p k⟩
section
variable {X : Cx}
theorem setMO_get {pins : List (Addr × Obj)} {σ : L2.St} {H : Hp} {s : Shared} {a : Addr} {S : Key → Bool} {n : Nat} (I : Inv X pins σ H s) (ha : H a = some (SetMO X.w a S n)) : SetM X.w s.heap a S n := (I.hok a _ ha).1
theorem addM_ok {pins : List (Addr × Obj)} {σ : L2.St} {H : Hp} {s : Shared} {E : Value → Shared → Prop} {D : Addr} {S : Key → Bool} {n : Nat} {k : Key} {u : Value} {Q : Value → Shared → Prop} (ru : RelV (kV k) u) (I : Inv X pins σ H s) (hD : H D = some (SetMO X.w D S n)) (room : n + 1 < scanBound)
    (h : ∀ s', Inv X pins σ (upd H D (SetMO X.w D (fun j => S j || decide (j = k)) (if S k = true then n else n + 1))) s' → Q .none s') : wpAny (model X.prog X.w) X.A (call (.builtin "set.add") [.ref D, u]) Q E s := by
  have R := setMO_get I hD
  refine setM_add ru R room fun h' sb new => ?_
  have he : ∃ u, h'.get? D = some u := by
    have ⟨o, _, _, _, ho, _⟩ := new
    exact ⟨o, ho⟩
  exact h _ (I.write (e := D) (t' := s.toks + 1) (by rw [hD]; trivial) (.inl rfl) (fun b u hb hu => (sb.2 b hb).trans hu) he (setMO_new new))
/-! ### its members, in some order -/
theorem setM_out {w : World} {es : Array (Int × Value)} (g : ∀ e ∈ es.toList, GoodM w e) {out : List Value} (hp : out.Perm (es.toList.map (·.2))) : ∃ ks : List Key, Vals (ks.map kV) out ∧ ks.Perm (es.toList.map keyM) := by
  have key : ∀ v ∈ out, ∃ k : Key, RelV (kV k) v := fun v hv => by
    obtain ⟨e, he, q⟩ := List.mem_map.mp (hp.mem_iff.mp hv)
    obtain ⟨k, h1, _⟩ := g e he
    exact ⟨k, q ▸ h1⟩
  refine ⟨out.map fun v => keyM (0, v), ?_, ?_⟩
  · have go : ∀ l : List Value, (∀ v ∈ l, ∃ k : Key, RelV (kV k) v) → Vals ((l.map fun v => keyM (0, v)).map kV) l := by
      intro l
      induction l with
      | nil => exact fun _ => .nil
      | cons v r ih =>
        intro h
        obtain ⟨k, hk⟩ := h v (List.mem_cons_self ..)
        refine .cons ?_ (ih fun u hu => h u (List.mem_cons_of_mem _ hu))
        show RelV (kV (keyM (0, v))) v
        rw [keyM_of hk]
        exact hk
    exact go out key
  · have q := hp.map fun v => keyM (0, v)
    rw [List.map_map] at q
    exact q
theorem each_of_map {α : Type} (f : α → V) : ∀ {l : List α} {out : List Value}, Vals (l.map f) out → PySem.W.EachIs (fun v z => RelV (f z) v) out l
  | [], _, .nil => .nil
  | _ :: _, _, .cons r t => .cons r (each_of_map f t)
theorem map_of_each {α : Type} (f : α → V) : ∀ {l : List α} {out : List Value}, PySem.W.EachIs (fun v z => RelV (f z) v) out l → Vals (l.map f) out
  | _, _, .nil => .nil
  | _, _, .cons r t => .cons r (map_of_each f t)
/-- sorted(a set): a new list of the members by what they read as -/
def rSortM (w : World) : List V → Hp → VK → Prop := fun vs H Q => ∃ (α : Type) (enc : α → PyData) (val : α → Key) (a : Addr) (S : Key → Bool) (n : Nat), vs = [.ref a] ∧ H a = some (SetMO w a S n) ∧
  (∀ z, (enc z).depth ≤ 60 ∧ ∀ (h : Heap) (v : Value), RelV (kV (val z)) v → Reads h v (enc z) []) ∧ (∀ k, S k = true → ∃ z, val z = k) ∧ (∀ l : List α, PySem.W.AllAlike (l.map enc) ∧ PySem.W.Sortable (l.map enc)) ∧
  ∀ (l : List α) (p : Addr), (l.map val).Nodup → (∀ k, S k = true ↔ k ∈ l.map val) → l.length = n → H p = none → Q (.ref p) (upd H p (.lst ((l.mergeSort (PySem.W.dataLe false enc)).map fun z => kV (val z))))
theorem pick {α β : Type} (f : α → β) : ∀ ks : List β, (∀ k ∈ ks, ∃ z, f z = k) → ∃ l : List α, l.map f = ks
  | [], _ => ⟨[], rfl⟩
  | k :: r, h => by
    obtain ⟨z, hz⟩ := h k (List.mem_cons_self ..)
    obtain ⟨l, hl⟩ := pick f r fun k hk => h k (List.mem_cons_of_mem _ hk)
    exact ⟨z :: l, by rw [List.map_cons, hz, hl]⟩
theorem cr_sortM (hc : X.calm = true) (hu : X.A.units + 64 < cLine) : CallR X (.builtin "sorted") (rSortM X.w) := by
  intro pins s τ H vs us Q I r h
  obtain ⟨α, enc, val, a, S, n, rfl, hA, hd, hv, hal, q⟩ := h
  obtain ⟨u, rfl, ru⟩ := vals1 r
  obtain rfl : u = Value.ref a := ru
  obtain ⟨o, es, ep, t, ho, hex, hdt, g, nd, hm, hb, hf, hn, hr, hl⟩ := setMO_get I hA
  refine Calls.call_function_entry kind_sorted plain_sorted entry_sorted (args_sorted1 _) ?_
  unfold Builtin.«sorted»
  refine wpAny_bind (m := checkCount "sorted" 1 1 _) (wpAny_pure ?_)
  refine wpAny_bind (collect_set (A := X.A.in1) (I.ok.hd hc) ⟨o, ho, hex.1, hdt⟩ hf hb hr hl fun s1 out k1 hz g1 o1 pm => ?_)
  obtain ⟨ks, hks, pk⟩ := setM_out g pm
  obtain ⟨l, rfl⟩ := pick val ks fun k hk => hv k ((hm k).mpr (pk.mem_iff.mp hk))
  have hol : out.length = n := by rw [pm.length_eq, List.length_map, Array.length_toList]; exact hn
  have hln : l.length = n := by
    have := hks.length
    rw [List.length_map, List.length_map] at this
    exact this.trans hol
  have hsl : out.length ≤ sizeLine := by rw [hol, ← hn]; exact fits_of_scanBound hb
  rw [List.map_map] at hks
  have e := each_of_map _ hks
  refine wpAny_bind (wpAny_newList ?_ hsl)
  have hoL : (s1.heap.push (seqObj "list" out.toArray 0)).get? s1.heap.objs.size = some (seqObj "list" out.toArray 0) := Heap.get?_push_size _ rfl
  have er : PySem.W.EachIs (fun v z => ∃ as, Reads (s1.heap.push (seqObj "list" out.toArray 0)) v (enc z) as ∧ s1.heap.objs.size ∉ as) out l := e.mono fun v z r => ⟨[], (hd z).2 _ v r, by simp⟩
  refine wpAny_bind (wpAny_holding (PySem.W.list_sort_data (enc := enc) hoL e er (hal l).1 (hal l).2 (by rw [hln, ← hol]; exact hsl) (fun z hz' => ?_) (fun out2 ho2 eo => ?_)))
  · have := (hd z).1
    show X.A.in1.units + 1 + (enc z).depth < cLine
    have e2 : X.A.in1.units = X.A.units + 1 := rfl
    omega
  · obtain ⟨c, hcc⟩ := sortedHeap_at (vs := out) (out := out2.toArray) hoL
    have kk : ∀ b x, s1.heap.get? b = some x → (sortedHeap (s1.heap.push (seqObj "list" out.toArray 0)) s1.heap.objs.size out out2.toArray).get? b = some x := fun b x q1 => by
      have hlt := Heap.lt_size q1
      rw [sortedHeap_old (Nat.ne_of_lt hlt) (by rw [size_push']; exact Nat.lt_succ_of_lt hlt)]
      exact Heap.get?_push_of_some _ q1
    have rv := map_of_each _ eo
    have I1 : Inv X pins τ H s1 := I.call' (ch := []) o1 (Un.kept k1) (I.hok.kept k1) (by rw [g1]; exact I.bare) (fun _ z => nomatch z)
    have J : Inv X pins τ (upd H s1.heap.objs.size (.lst ((l.mergeSort (PySem.W.dataLe false enc)).map fun z => kV (val z)))) { s1 with heap := sortedHeap (s1.heap.push (seqObj "list" out.toArray 0)) s1.heap.objs.size out out2.toArray, toks := s1.toks } :=
      I1.laid (t' := s1.toks) kk (Nat.le_refl _) ⟨by rw [List.length_map, List.length_mergeSort, hln, ← hol]; exact hsl, out2, c, rv, hcc⟩
    refine wpAny_pure ⟨_, rfl, ?_⟩
    exact ⟨.ref s1.heap.objs.size, _, J, rfl, q l _ (by rw [pk.nodup_iff]; exact nd) (fun k => by rw [hm k, pk.mem_iff]) hln (I.hok.fresh hz)⟩
theorem nodup_of_map {α β : Type} (f : α → β) : ∀ {l : List α}, (l.map f).Nodup → l.Nodup
  | [], _ => List.nodup_nil
  | x :: r, h => by
    rw [List.map_cons, List.nodup_cons] at h
    exact List.nodup_cons.mpr ⟨fun m => h.1 (List.mem_map_of_mem m), nodup_of_map f h.2⟩
/-- sorted(a set of texts) -/
def rSortMS (w : World) : List V → Hp → VK → Prop := fun vs H Q => ∃ (a : Addr) (S : Key → Bool) (n : Nat), vs = [.ref a] ∧ H a = some (SetMO w a S n) ∧ (∀ k, S k = true → ∃ z : Str, k = .inr z) ∧
  ∀ (l : List Str) (p : Addr), l.Nodup → l.Pairwise (fun x y => x.cps.toList ≤ y.cps.toList) → (∀ z : Str, z ∈ l ↔ S (.inr z) = true) → l.length = n → H p = none → Q (.ref p) (upd H p (.lst (l.map V.str)))
theorem cr_sortMS (hc : X.calm = true) (hu : X.A.units + 64 < cLine) : CallR X (.builtin "sorted") (rSortMS X.w) := by
  intro pins s τ H vs us Q I r h
  obtain ⟨a, S, n, rfl, hA, hS, q⟩ := h
  have inj : ∀ x y : Str, (Sum.inr x : Key) = .inr y → x = y := fun x y e => Sum.inr.inj e
  refine cr_sortM hc hu pins s τ H _ us Q I r ⟨Str, PyData.str, fun z => .inr z, a, S, n, rfl, hA, fun z => ⟨by show 0 ≤ 60; decide, fun h v r => ?_⟩, fun k hk => ?_, fun l => ⟨PySem.W.AllAlike.of fun b b' => by simp [PySem.W.alike], ?_⟩, fun l p nd hm hn np => ?_⟩
  · obtain ⟨t, rfl⟩ := r
    exact .str z t
  · obtain ⟨z, e⟩ := hS k hk
    exact ⟨z, e.symm⟩
  · exact PySem.W.Sortable.others fun b => ⟨by simp, fun xs => by simp⟩
  · have pm := List.mergeSort_perm l (PySem.W.dataLe false PyData.str)
    refine q (l.mergeSort (PySem.W.dataLe false PyData.str)) p ?_ ?_ (fun z => ?_) (by rw [pm.length_eq, hn]) np
    · rw [pm.nodup_iff]
      exact nodup_of_map _ nd
    · have e : PySem.W.dataLe false PyData.str = fun x y : Str => !decide (y.cps.toList < x.cps.toList) := by
        funext x y
        show (!PySem.W.dataLt (.str y) (.str x)) = _
        rw [PySem.W.dataLt_str]
      have hp := List.pairwise_mergeSort (le := fun x y : Str => !decide (y.cps.toList < x.cps.toList)) (fun x y z a b => ?_) (fun x y => ?_) l
      · rw [e]
        refine hp.imp fun {x y} a => ?_
        exact List.not_lt.mp fun z => by rw [decide_eq_true z] at a; cases a
      · have a' : x.cps.toList ≤ y.cps.toList := List.not_lt.mp fun z => by rw [decide_eq_true z] at a; cases a
        have b' : y.cps.toList ≤ z.cps.toList := List.not_lt.mp fun z => by rw [decide_eq_true z] at b; cases b
        rw [decide_eq_false (List.not_lt.mpr (List.le_trans a' b'))]
        rfl
      · rcases List.le_total x.cps.toList y.cps.toList with a | a
        · rw [decide_eq_false (List.not_lt.mpr a)]
          rfl
        · rw [decide_eq_false (List.not_lt.mpr a), Bool.not_false, Bool.or_true]
    · rw [pm.mem_iff, hm (.inr z)]
      exact ⟨fun m => List.mem_map_of_mem m, fun m => by obtain ⟨y, hy, e⟩ := List.mem_map.mp m; exact inj _ _ e ▸ hy⟩
/-! ### sorted(texts, key=len) -/
theorem sorted_len {l : Addr} {zs : List Str} {Q : Value → Shared → Prop} {pins : List (Addr × Obj)} {τ : L2.St} {H : Hp} {s : Shared} (I : Inv X pins τ H s) (hl : SqL X.K H l (zs.map V.str)) (hu : X.A.units + 64 < cLine) (hz : ∀ z ∈ zs, z.length ≤ sizeLine)
    (hQ : ∀ (p : Addr) (s' : Shared), H p = none → Inv X pins τ (upd H p (.lst ((zs.mergeSort fun x y => decide (x.length ≤ y.length)).map V.str))) s' → Q (.ref p) s') :
    wpAny (model X.prog X.w) X.A (call (.builtin "sorted") [.ref l] [(Str.ofString "key", .builtin "len")]) Q X.xe s := by
  obtain ⟨its, rv, hl, hZ⟩ := I.list hl
  have e := each_of_map V.str rv
  rw [List.length_map] at hZ
  refine PySem.W.sorted_key_data (b := false) (R := fun v z => RelV (V.str z) v) (fun z : Str => PyData.int z.length) hl.isList e (PySem.W.AllAlike.of fun b b' => by simp [PySem.W.alike]) (PySem.W.Sortable.others fun b => ⟨by simp, fun xs => by simp⟩) hZ
    (fun x hx => by show X.A.units + 2 + 0 < cLine; omega) (PyProof.Rows.ksk_s1 _ _) (fun _ => PyProof.Rows.ksk_l1 _ _) (fun x => PyProof.Rows.ksk_t4 "len" x) (fun v x hv hx h tk k => ?_) (fun out c h' tk k fr hp hlen eo => ?_)
  · obtain ⟨t, rfl⟩ := hv
    have hl63 := line63
    have hzx := hz x hx
    exact len_str (by omega) ⟨h, _, rfl, fun _ _ e => e, .int _ _⟩
  · have e2 : PySem.W.dataLe false (fun z : Str => PyData.int z.length) = fun x y : Str => decide (x.length ≤ y.length) := by
      funext x y
      show (!PySem.W.dataLt (.int y.length) (.int x.length)) = _
      rw [PySem.W.dataLt_int]
      by_cases c : x.length ≤ y.length
      · rw [decide_eq_true c, decide_eq_false (by omega)]
        rfl
      · rw [decide_eq_false c, decide_eq_true (by omega)]
        rfl
    rw [e2] at eo
    have hs : s.heap.objs.size ≤ s.heap.objs.size + 1 := Nat.le_succ _
    exact hQ _ _ (I.hok.fresh hs) (I.laid (t' := tk) k hs ⟨by rw [List.length_map, List.length_mergeSort]; exact hZ, out, c, map_of_each V.str eo, hp⟩)
/-- sorted(x, key=len), x a list of texts -/
def rSortLen (K : PySem.W.Frag) : List V → Hp → VK → Prop := fun vs H Q => ∃ (a : Addr) (zs : List Str), vs = [.ref a] ∧ SqL K H a (zs.map V.str) ∧ (∀ z ∈ zs, z.length ≤ sizeLine) ∧
  ∀ p : Addr, H p = none → Q (.ref p) (upd H p (.lst ((zs.mergeSort fun x y => decide (x.length ≤ y.length)).map V.str)))
def tSLen (r : List V → Hp → VK → Prop) (t : TA) : TE := fun σ H Q => t σ H fun vs H1 => r vs H1 Q
theorem pe_sortLenK {K : PySem.W.Frag} {e : Expr} {t : TA} {p kp pos : Pos} (hu : X.A.units + 64 < cLine) (hg : Gl X "sorted") (hm : X.mg "sorted" = none) (hgl : Gl X "len") (hml : X.mg "len" = none) (ha : PA X [e] t) {kpos : Pos}
    (he : backTo pos (starEach [e] X.env) = [(false, eval e X.env)] := by rfl) (hK : X.K = K := by rfl) :
    PE X (.Call (.Name "sorted" p) [e] [⟨some "key", .Name "len" kp, kpos⟩] pos) (tSLen (rSortLen K) t) := by
  subst hK
  refine ⟨fun pins s σ H Q I h => ?_⟩
  refine wpAny_Call_Name_kw (ld_blt I hg hm (u := .builtin "sorted") (by decide +kernel) ?_ (by decide) (by decide))
  refine PyProof.Rows.callWith_kw (thn (ha.run pos pins s σ H _ I h) fun us s1 ⟨vs, H1, I1, r1, q1⟩ => ?_) he (by rw [he]; rfl) (by rfl) (by rfl)
  obtain ⟨a, zs, rfl, hA, hz, q⟩ := q1
  obtain ⟨u, rfl, ru⟩ := vals1 r1
  obtain rfl : u = Value.ref a := ru
  show wpAny _ _ (evalAll ((do let v ← eval (.Name "len" kp) X.env; standAt pos; pure v) :: [])) _ _ s1
  refine wpAny_evalAll_cons (wpAny_bind (ld_blt I1 hgl hml (u := .builtin "len") (by decide +kernel) ?_ (by decide) (by decide)))
  refine wpAny_bind (wpAny_standAt (wpAny_pure (wpAny_evalAll_nil ?_)))
  exact sorted_len I1 hA hu hz fun p s2 np I2 => ⟨.ref p, _, I2, rfl, q p np⟩
end
end SH
set_option Elab.async false
set_option linter.all false
set_option maxRecDepth 100000
set_option maxHeartbeats 4000000
/-! comprehensions of any number of fors -/
namespace SH
open PySem PySem.Spec PyProof.Rows L2
/-- a turn's inner part: from slots and heap, what is wished of the heap behind it -/
abbrev TBd := L2.St → Hp → (Hp → Prop) → Prop
def BodyOk (X : Cx) (run : Sem PySem.Fin → Sem PySem.Fin) (bd : TBd) (vb : List Nat) : Prop :=
  ∀ (pins : List (Addr × Obj)) (s : Shared) (σ : L2.St) (H : Hp) (Nx : Hp → Prop) (c : Sem PySem.Fin) (Qc : PySem.Fin → Shared → Prop), Inv X pins σ H s → bd σ H Nx →
    (∀ s' H', Inv X pins (wipe σ vb) H' s' → Nx H' → wpAny (model X.prog X.w) X.A c Qc (fun _ _ => False) s') → wpAny (model X.prog X.w) X.A (run c) Qc (fun _ _ => False) s
/-- the turns of one for -/
def tTurns (J : It) (g : TG) (tt : TT) (vs : List Nat) (σw : L2.St) (bd : TBd) (Nx : Hp → Prop) (H0 : Hp) : Prop :=
  ∃ W : Nat → Nat → Hp → Prop, (∃ m, W 0 m H0) ∧ ∀ i m H, W i m H → (J.stop i H ∧ Nx H) ∨ (J.go i H ∧ ∃ Nx1 : Hp → Prop, (∀ H', Nx1 H' → ∃ m', m' < m ∧ W (i + 1) m' H') ∧
    ∀ x H', J.yld i H x H' → g x σw H' fun σ2 H2 => wipe σ2 vs = σw ∧ tt σ2 H2 fun b H3 => if b = true then bd σ2 H3 Nx1 else Nx1 H3)
/-- for tg in iter if ..: the inner part -/
def bFor (wi : TI) (g : TG) (tt : TT) (vs : List Nat) (bd : TBd) : TBd := fun σ H Nx => wi σ H fun J H1 => tTurns J g tt vs (wipe σ vs) bd Nx H1
/-- what a clause's turn runs -/
def clauseTurn (e : Expr) (k : Nat) (it acc : Value) (env : Env) (tg iter : Expr) (ifs : List Expr) (BODY : Sem PySem.Fin → Sem PySem.Fin) : Sem PySem.Fin := do
  standAt iter.pos
  match ← pyNext it with
  | none => pure (.done .next)
  | some v =>
    letOwnedTupleGo tg it v
    assign tg env v
    let mut ok := true
    for c in ifs do
      if ok then ok ← isTrue c env (eval c env)
    if ok then
      BODY (again (.compLoop e k it acc env))
    else again (.compLoop e k it acc env)
def innerRun (e : Expr) (k : Nat) (acc : Value) (env : Env) (iter : Expr) (c : Sem PySem.Fin) : Sem PySem.Fin := do
  let x ← eval iter env
  standAt iter.pos
  let x ← foldedSetIterable iter env x
  let _ ← runOwn (.compStart e k (← holding [x] (pyIter x)) acc env) env
  c
theorem wpAny_notedF {M : Model} {A : Around} {t : Sem PySem.Fin} {env : Env} {Q : PySem.Fin → Shared → Prop} {E : Value → Shared → Prop} {s : Shared} (h : wpAny M A t Q (fun _ _ => False) s) : wpAny M A (t.onRaise (fun x => do noteFrame x env; theTreesLotGoes x)) Q E s :=
  wpAny_noted (wpAny_mono h (fun _ _ q => q) fun _ _ z => z.elim)
theorem compStart_k {P : Program} {w : World} {A : Around} {e : Expr} {k : Nat} {it acc : Value} {env : Env} {R : Result → Shared → Prop} {s : Shared} (hcl : ((clausesOf e)[k]?).elim false (·.is_async != 0) = false) (hun : A.under (Code.compStart e k it acc env) = A) (hden : (model P w).den (Code.compStart e k it acc env) = ((compStart e k it acc env).onRaise (fun x => do noteFrame x env; standAt theWindowsPlace)))
    (h0 : codeAny (model P w) A (.compLoop e k it acc env) R s) (h : wpAny (model P w) A (pyIter it) (fun it' s' => codeAny (model P w) A (.compLoop e k it' acc env) R s') (notedBy (model P w) A env fun x s' => R (.error x) s') s) :
    codeAny (model P w) A (.compStart e k it acc env) R s := by
  refine codeAny_of_tree ?_
  have e1 : A.under (Code.compStart e k it acc env) = A := hun
  have e2 : (model P w).den (Code.compStart e k it acc env) = ((compStart e k it acc env).onRaise (fun x => do noteFrame x env; standAt theWindowsPlace)) := hden
  rw [e1, e2]
  refine wpAny_notedAt ?_
  unfold compStart
  simp only [hcl, Bool.false_eq_true, if_false]
  show wpAny _ _ (ask >>= _) _ _ s
  refine wpAny_bind (wpAny_askSetting (wpAny_ite ?_))
  split
  · first
      | exact wpAny_bind (wpAny_pure (wpAny_pure (And.intro rfl h0)))
      | exact wpAny_pure (And.intro rfl h0)
  · refine wpAny_bind (wpAny_rule ?_)
    have h2 : ∀ s', s' = s → wpAny (model P w) A (pyIter it >>= fun it' => again (.compLoop e k it' acc env)) (fun fin s' => match fin with | .done f => R (.ok f) s' | .again c' => c'.quiet = true ∧ codeAny (model P w) A c' R s') (notedBy (model P w) A env fun x s' => R (.error x) s') s' := fun s' es => by
      subst es
      exact wpAny_bind (wpAny_mono h (fun it' s' h' => wpAny_pure (And.intro rfl h')) fun _ _ x => x)
    cases (clausesOf e)[k]? with
    | none => first | exact h2 _ rfl | exact wpAny_bind (wpAny_pure (h2 _ rfl))
    | some g => first | exact wpAny_bind (wpAny_standAt (h2 _ rfl)) | exact wpAny_bind (wpAny_bind (wpAny_standAt (wpAny_pure (h2 _ rfl))))
section
variable {X : Cx} {e : Expr} {k : Nat} {acc : Value} {tg iter : Expr} {ifs : List Expr} {g : TG} {tt : TT} {vs vb : List Nat} {bd : TBd} {BODY : Sem PySem.Fin → Sem PySem.Fin} {wi : TI}
theorem wipe_sub {σ : L2.St} {vs vb : List Nat} (h : ∀ i ∈ vb, i ∈ vs) (j : Nat) (v : V) (e : (wipe σ vs)[j]? = some (some v)) : (wipe σ vb)[j]? = some (some v) := by
  obtain ⟨e1, e2⟩ := wipe_some e
  rw [wipe_out fun z => e2 (h j z)]
  exact e1
theorem loop_ok (hc : X.calm = true) (heq : ∀ it, (model X.prog X.w).den (Code.compLoop e k it acc X.env) = (clauseTurn e k it acc X.env tg iter ifs BODY).onRaise (fun x => do noteFrame x X.env; theTreesLotGoes x)) (hun : ∀ it, X.A.under (Code.compLoop e k it acc X.env) = X.A)
    (pg : PG X tg g) (pt : PTs X ifs tt) (hb : BodyOk X BODY bd vb) (hv : ∀ i ∈ vb, i ∈ vs) (hxe : X.xe = fun _ _ => False)
    {pins : List (Addr × Obj)} {s : Shared} {σw : L2.St} {H : Hp} {J : It} {fp : List Addr} {it : Addr} {tn : Nat → Heap → Prop} {Nx : Hp → Prop} {R : Result → Shared → Prop}
    (T : Turn X.prog X.w X.K tg J fp it tn) (I : Inv X pins σw H s) (st : tn 0 s.heap) (f : ∀ b ∈ fp, FpOk X pins H b) (h : tTurns J g tt vs σw bd Nx H)
    (hR : ∀ s' H', Inv X pins σw H' s' → Nx H' → R (.ok .next) s') :
    codeAny (model X.prog X.w) X.A (.compLoop e k (.ref it) acc X.env) R s := by
  obtain ⟨W, ⟨m0, w0⟩, turn⟩ := h
  have stat : ∀ {H' : Hp}, (∀ b ∈ fp, H' b = none) → ∀ b ∈ fp, FpOk X pins H' b := fun hn b hb => ⟨hn b hb, (f b hb).2⟩
  refine codeAny_loop rfl (fun n s' => ∃ i H', Inv X pins σw H' s' ∧ tn i s'.heap ∧ (∀ b ∈ fp, H' b = none) ∧ W i n H') (fun n s5 hI => ?_) m0 ⟨0, H, I, st, fun b hb => (f b hb).1, w0⟩
  obtain ⟨i, H5, I5, st5, n5, w5⟩ := hI
  have pgr := pg.run
  have ptr := pt.run
  rw [hxe] at pgr ptr
  rw [hun, heq]
  refine wpAny_notedF ?_
  unfold clauseTurn
  refine wpAny_bind (wpAny_standAt ?_)
  rcases turn i n H5 w5 with ⟨stop, qq⟩ | ⟨go, Nx1, hNx, step⟩
  · refine wpAny_bind (thnF (T.done X rfl rfl rfl hc i pins s5 σw H5 (fun _ _ => False) I5 (stat n5) st5 stop) fun r s6 ⟨hr, I6⟩ => ?_)
    subst hr
    exact wpAny_pure (hR s6 H5 I6 qq)
  · refine wpAny_bind (thnF (T.item X rfl rfl rfl hc i pins s5 σw H5 (fun _ _ => False) I5 (stat n5) st5 go) fun r s6 ⟨u, hr, h6⟩ => ?_)
    subst hr
    refine wpAny_bind (thnF h6 fun _ s7 ⟨x, H7, I7, r7, y7, st7, n7⟩ => ?_)
    have I7' := I7.pinned (stat n7) (T.obj _ _ st7)
    refine wpAny_bind (thnF (pgr _ s7 _ H7 x u _ I7' r7 (step x H7 y7)) fun _ s8 ⟨σ8, H8, I8, hw8, q8⟩ => ?_)
    refine wpAny_bind (thnF (ptr _ s8 σ8 H8 _ I8 q8) fun b s9 ⟨H9, I9, q9⟩ => ?_)
    have fin : ∀ {σ9 : L2.St} {s' : Shared} {H' : Hp}, Inv X (pins ++ pinsAt fp s7.heap) σ9 H' s' → σw.length = σ9.length → (∀ (j : Nat) v, σw[j]? = some (some v) → σ9[j]? = some (some v)) → Nx1 H' →
        ∃ m, m < n ∧ ∃ i H', Inv X pins σw H' s' ∧ tn i s'.heap ∧ (∀ b ∈ fp, H' b = none) ∧ W i m H' := fun {σ9 s' H'} I' hl hk nx => by
      obtain ⟨m', hm, w'⟩ := hNx H' nx
      have pin' : ∀ b ∈ fp, ∀ o, s7.heap.get? b = some o → s'.heap.get? b = some o ∧ H' b = none := fun b hb o e =>
        let z := I'.pin (b, o) (List.mem_append_right _ (List.mem_append_right _ (mem_pinsAt hb e)))
        ⟨z.1, z.2.1⟩
      refine ⟨m', hm, i + 1, H', (I'.unpinned (pins := pins)).weak hl hk, T.keep _ _ _ st7 fun b hb o e => (pin' b hb o e).1, fun b hb => ?_, w'⟩
      obtain ⟨o, e, _⟩ := T.obj _ _ st7 b hb
      exact (pin' b hb o e).2
    cases b with
    | false =>
      refine wpAny_pure ⟨rfl, ?_⟩
      exact fin I9 (by rw [← hw8, wipe_length]) (fun j v e => by rw [← hw8] at e; exact (wipe_some e).1) q9
    | true =>
      refine hb _ s9 σ8 H9 Nx1 _ _ I9 q9 fun s10 H10 I10 q10 => ?_
      refine wpAny_pure ⟨rfl, ?_⟩
      exact fin I10 (by rw [← hw8, wipe_length, wipe_length]) (fun j v e => by rw [← hw8] at e; exact wipe_sub hv j v e) q10
/-- a for further in -/
theorem body_for (hc : X.calm = true) (hxe : X.xe = fun _ _ => False) (heq : ∀ it, (model X.prog X.w).den (Code.compLoop e k it acc X.env) = (clauseTurn e k it acc X.env tg iter ifs BODY).onRaise (fun x => do noteFrame x X.env; theTreesLotGoes x)) (hun : ∀ it, X.A.under (Code.compLoop e k it acc X.env) = X.A)
    (hst : ∀ (R : Result → Shared → Prop) (it : Value) (s : Shared), codeAny (model X.prog X.w) X.A (.compLoop e k it acc X.env) R s → wpAny (model X.prog X.w) X.A (pyIter it) (fun it' s' => codeAny (model X.prog X.w) X.A (.compLoop e k it' acc X.env) R s') (notedBy (model X.prog X.w) X.A X.env fun x s' => R (.error x) s') s → codeAny (model X.prog X.w) X.A (.compStart e k it acc X.env) R s)
    (pi : PI X tg iter wi) (hs : ∀ x, foldedSetIterable iter X.env x = pure x) (pg : PG X tg g) (pt : PTs X ifs tt) (hb : BodyOk X BODY bd vb) (hv : ∀ i ∈ vb, i ∈ vs) : BodyOk X (innerRun e k acc X.env iter) (bFor wi g tt vs bd) vs := by
  intro pins s σ H Nx c Qc I h hcc
  have pir := pi.run
  rw [hxe] at pir
  unfold innerRun
  refine wpAny_bind (thnF (pir pins s σ H _ I h) fun xv s10 hx => wpAny_bind (wpAny_standAt (wpAny_bind (wpAny_of_eq (hs xv) (wpAny_bind (wpAny_holding (thnF hx fun itv s11 h11 => ?_)))))))
  obtain ⟨it1, fp1, tn1, J1, H11, e1, I11, T1, st11, f11, q11⟩ := h11
  subst e1
  refine wpAny_bind (wpAny_runOwn ?_)
  rw [Around.mark_none]
  have lp := loop_ok (R := fun r s' => match r with
      | .ok _ => ∃ H', Inv X pins (wipe σ vs) H' s' ∧ Nx H'
      | .error _ => False) hc heq hun pg pt hb hv hxe T1 (I11.weak (wipe_length _ _) (fun j v e => (wipe_some e).1)) st11 f11 q11 (fun s' H' I' n => ⟨H', I', n⟩)
  refine codeAny_mono (hst _ _ _ lp (T1.self X.A 0 _ _ _ st11 lp)) fun r s' hr => ?_
  cases r with
  | ok f =>
    obtain ⟨H', I', n⟩ := hr
    exact hcc s' H' I' n
  | error e => exact hr.elim
end
/-! ### sets -/
/-- the member is put in -/
def bAdd (w : World) (te : TE) (D : Addr) : TBd := fun σ H Nx => te σ H fun y H1 => ∃ (k : Key) (S : Key → Bool) (n : Nat), y = kV k ∧ H1 D = some (SetMO w D S n) ∧ n + 1 < scanBound ∧ Nx (upd H1 D (SetMO w D (fun j => S j || decide (j = k)) (if S k = true then n else n + 1)))
def addRun (elt : Expr) (D : Addr) (env : Env) (c : Sem PySem.Fin) : Sem PySem.Fin := do (do let v ← eval elt env; standAt elt.pos; let _ ← call (.builtin "set.add") [.ref D, v]); c
section
variable {X : Cx} {elt : Expr} {te : TE}
theorem body_add (hxe : X.xe = fun _ _ => False) (he : PE X elt te) (D : Addr) : BodyOk X (addRun elt D X.env) (bAdd X.w te D) [] := by
  intro pins s σ H Nx c Qc I h hcc
  have per := he.run
  rw [hxe] at per
  unfold addRun
  refine wpAny_bind (wpAny_bind (thnF (per pins s σ H _ I h) fun v s1 ⟨y, H1, I1, r1, k, S, n, ey, hD, room, q⟩ => wpAny_bind (wpAny_standAt ?_)))
  subst ey
  have := addM_ok (X := X) (E := X.xe) r1 I1 hD room (Q := fun _ s' => ∃ H', Inv X pins (wipe σ []) H' s' ∧ Nx H') fun s' I' => ⟨_, I', q⟩
  rw [hxe] at this
  exact wpAny_bind (wpAny_mono this (fun _ s' q => wpAny_pure (let ⟨H', I', n⟩ := q; hcc s' H' I' n)) fun _ _ z => z)
/-- {elt for tg in iter if .. ..} -/
def tScN (w : World) (wi : TI) (g : TG) (tt : TT) (vs : List Nat) (bd : Addr → TBd) : TE := fun σ H Q => wi σ H fun J H1 => ∀ D, H1 D = none → tTurns J g tt vs (wipe σ vs) (bd D) (fun H' => Q (.ref D) H') (upd H1 D (SetMO w D (fun _ => false) 0))
theorem scN_core {pins : List (Addr × Obj)} {s : Shared} {σ : L2.St} {H : Hp} {Q : VK} {tg iter : Expr} {ifs : List Expr} {rest : List Comprehension} {scope : Scope} {own : List (Str × Nat)} {vb : List Nat} {pos pos' : Pos} {wi : TI} {g : TG} {tt : TT} {bd : Addr → TBd} {BODY : Addr → Env → Sem PySem.Fin → Sem PySem.Fin} {use : Option (Value → Sem Unit)} {Qf : Value → Shared → Prop}
    (hc : X.calm = true) (hN : X.N.Nodup) (I : Inv X pins σ H s) (hi : PI X tg iter wi) (ok : BlkOk X.N X.env.scope scope own) (hv : ∀ i ∈ vb, i ∈ own.map (·.2))
    (heq : ∀ (env : Env) (D : Addr) (it : Value), (model X.prog X.w).den (Code.compLoop (.SetComp elt (⟨tg, iter, ifs, 0⟩ :: rest) scope pos) 0 it (.ref D) env) = (clauseTurn (.SetComp elt (⟨tg, iter, ifs, 0⟩ :: rest) scope pos) 0 it (.ref D) env tg iter ifs (BODY D env)).onRaise (fun x => do noteFrame x env; theTreesLotGoes x))
    (hun : ∀ (env : Env) (D : Addr) (it : Value), X.A.under (Code.compLoop (.SetComp elt (⟨tg, iter, ifs, 0⟩ :: rest) scope pos) 0 it (.ref D) env) = X.A)
    (hg : ∀ (s : Shared) (H : Hp) (C : Addr) (cl : List (Str × Addr)) (fp : List Addr), PG (X.blk s H scope (compEnvC scope cl C X.env) fp) tg g) (ht : ∀ (s : Shared) (H : Hp) (C : Addr) (cl : List (Str × Addr)) (fp : List Addr), PTs (X.blk s H scope (compEnvC scope cl C X.env) fp) ifs tt)
    (hb : ∀ (D : Addr) (s : Shared) (H : Hp) (C : Addr) (cl : List (Str × Addr)) (fp : List Addr), BodyOk (X.blk s H scope (compEnvC scope cl C X.env) fp) (BODY D (compEnvC scope cl C X.env)) (bd D) vb) (hs : ∀ x, foldedSetIterable iter X.env x = pure x)
    (h : tScN X.w wi g tt (own.map (·.2)) bd σ H Q)
    (hRR : ∀ D C s' m H', Inv X pins σ H' s' → Q (.ref D) H' → s'.heap.Ns C m → FpOk X pins H' C → compPost (model X.prog X.w) X.A X.xe use Qf (.ref D) C (.ok .next) s') :
    wpAny (model X.prog X.w) X.A (comprehension (.SetComp elt (⟨tg, iter, ifs, 0⟩ :: rest) scope pos) scope X.env pos' (newSet (.type "set")) false (eval iter X.env) use) Qf X.xe s := by
  have hfree : ∀ y ∈ scope.names, y.2 = .free → ∃ c, X.env.cells.lookup y.1 = some c := fun y hy e => by
    rcases ok.free y hy e with k | k
    · exact I.ok.has _ (.inl k)
    · exact I.ok.has _ (.inr k)
  refine wpAny_comprehension_free (use := use) rfl hs (closure_ok hfree) ok.kind (fun y hy e => by rw [ok.uniq y hy, e])
    (thn (hi.run pins s σ H _ I h) fun xv s1 hx => thn hx fun itv s2 h2 => ?_)
  obtain ⟨it, fp, tn, J, H2, e, I2, T, st2, f2, q⟩ := h2
  subst e
  refine PpSet.newSet_ok (newEnv_comp ?_)
  generalize hD : s2.heap.objs.size = D
  have hDn : H2 D = none := I2.hok.fresh (Nat.le_of_eq hD)
  have q := q D hDn
  generalize hs3 : ({ s2 with heap := s2.heap.push { cls := .type "set", dict := none, data := .set #[] 0 (.fresh 0 0 (!X.w.params.followText "set-order")) } } : Shared) = s3
  have I3 : Inv X pins σ (upd H2 D (SetMO X.w D (fun _ => false) 0)) s3 := by
    rw [← hs3]
    refine I2.laid (t' := s2.toks) (fun b o e => Heap.get?_push_of_some _ e) (Nat.le_of_eq hD) ?_
    rw [← hD]
    exact setMO_new (setM_fresh X.w)
  have h3 : s3.heap = s2.heap.push { cls := .type "set", dict := none, data := .set #[] 0 (.fresh 0 0 (!X.w.params.followText "set-order")) } := by rw [← hs3]
  have sz : ∀ b ∈ fp, b < s2.heap.objs.size := fun b hb => by
    obtain ⟨o, e, _⟩ := T.obj _ _ st2 b hb
    exact Heap.lt_size e
  have f3 : ∀ b ∈ fp, FpOk X pins (upd H2 D (SetMO X.w D (fun _ => false) 0)) b ∧ b < s3.heap.objs.size := fun b hb => by
    have hlt := sz b hb
    refine ⟨⟨?_, (f2 b hb).2⟩, by rw [h3, Heap.size_push]; exact Nat.lt_succ_of_lt hlt⟩
    rw [upd_ne (by rw [← hD]; exact Nat.ne_of_lt hlt)]
    exact (f2 b hb).1
  have st3 : tn 0 s3.heap := T.keep _ _ _ st2 fun b _ o e => by rw [h3]; exact Heap.get?_push_of_some _ e
  have I4 := block_start I3 ok hN f3
  have pg := hg s3 (upd H2 D (SetMO X.w D (fun _ => false) 0)) s3.heap.objs.size (cellsFrom (s3.heap.objs.size + 1) scope.names (cloFrom X.env.cells scope.names [])) fp
  have pt := ht s3 (upd H2 D (SetMO X.w D (fun _ => false) 0)) s3.heap.objs.size (cellsFrom (s3.heap.objs.size + 1) scope.names (cloFrom X.env.cells scope.names [])) fp
  have pb := hb D s3 (upd H2 D (SetMO X.w D (fun _ => false) 0)) s3.heap.objs.size (cellsFrom (s3.heap.objs.size + 1) scope.names (cloFrom X.env.cells scope.names [])) fp
  show codeAny _ _ (.compStart (.SetComp elt (⟨tg, iter, ifs, 0⟩ :: rest) scope pos) 0 (.ref it) (.ref D) (compEnvC scope (cellsFrom (s3.heap.objs.size + 1) scope.names (cloFrom X.env.cells scope.names [])) s3.heap.objs.size X.env)) (compPost (model X.prog X.w) X.A X.xe use Qf (.ref D) s3.heap.objs.size) { s3 with heap := pushCells (s3.heap.push { cls := .type "dict", data := .dict #[] }) scope.names }
  have nfp : ∀ b ∈ fp, (upd H2 D (SetMO X.w D (fun _ => false) 0)) b = none := fun b hb => (f3 b hb).1.1
  generalize hce : compEnvC scope (cellsFrom (s3.heap.objs.size + 1) scope.names (cloFrom X.env.cells scope.names [])) s3.heap.objs.size X.env = ce at I4 pg pt pb ⊢
  have cL : ce.locals = s3.heap.objs.size := by subst hce; rfl
  generalize hH3 : upd H2 D (SetMO X.w D (fun _ => false) 0) = H3 at I3 I4 pg pt pb q nfp f3
  generalize hs4 : ({ s3 with heap := pushCells (s3.heap.push { cls := .type "dict", data := .dict #[] }) scope.names } : Shared) = s4 at I4 ⊢
  have st4 : tn 0 s4.heap := T.keep _ _ _ st3 fun b _ o e => by rw [← hs4]; exact pushCells_keeps _ _ _ _ (Heap.get?_push_of_some _ e)
  have stat : ∀ b ∈ fp, FpOk (X.blk s3 H3 scope ce fp) [] H3 b := fun b hb =>
    ⟨nfp b hb, (I4.ok.exf b hb).1, I4.ok.exfs b hb, .inl hb, fun x c e => (I4.ok.exf b hb).2 x c e, fun p hp => absurd (show p ∈ ([] : List (Addr × Obj)) ++ [] from hp) (by simp)⟩
  have loop : codeAny (model X.prog X.w) X.A (.compLoop (.SetComp elt (⟨tg, iter, ifs, 0⟩ :: rest) scope pos) 0 (.ref it) (.ref D) ce) (compPost (model X.prog X.w) X.A X.xe use Qf (.ref D) s3.heap.objs.size) s4 := by
    refine loop_ok (X := X.blk s3 H3 scope ce fp) (pins := []) hc (heq ce D) (hun ce D) pg pt pb hv rfl T I4 st4 stat q fun s6 H5 I6 qq => ?_
    have I7 : Inv X pins σ H5 s6 := I3.call' (ch := fp) I6.os I6.base I6.hok I6.bare fun b hb => ⟨(f3 b hb).1.2.2.2.1, (f3 b hb).1.2.1, (f3 b hb).1.2.2.2.2.1, (f3 b hb).1.2.2.2.2.2⟩
    have nC : H5 s3.heap.objs.size = none := by
      have z : H5 ce.locals = none := I6.free
      rw [cL] at z
      exact z
    obtain ⟨m, hn, _⟩ := I6.loc
    have hn : s6.heap.Ns ce.locals m := hn
    rw [cL] at hn
    exact hRR D s3.heap.objs.size s6 m H5 I7 qq hn (I3.fpOk (Nat.le_refl _) nC)
  exact PpSet.codeAny_compStart_set loop (T.self X.A 0 _ _ _ st4 loop)
/-- one for -/
theorem pe_sc1 {tg iter : Expr} {ifs : List Expr} {scope : Scope} {own : List (Str × Nat)} {pos : Pos} {wi : TI} {g : TG} {tt : TT} {w : World} (hc : X.calm = true) (hN : X.N.Nodup) (hi : PI X tg iter wi) (ok : BlkOk X.N X.env.scope scope own)
    (hg : ∀ (s : Shared) (H : Hp) (C : Addr) (cl : List (Str × Addr)) (fp : List Addr), PG (X.blk s H scope (compEnvC scope cl C X.env) fp) tg g) (ht : ∀ (s : Shared) (H : Hp) (C : Addr) (cl : List (Str × Addr)) (fp : List Addr), PTs (X.blk s H scope (compEnvC scope cl C X.env) fp) ifs tt)
    (he : ∀ (s : Shared) (H : Hp) (C : Addr) (cl : List (Str × Addr)) (fp : List Addr), PE (X.blk s H scope (compEnvC scope cl C X.env) fp) elt te) (hs : ∀ x, foldedSetIterable iter X.env x = pure x := by intro _; rfl) (hw : X.w = w := by rfl) :
    PE X (.SetComp elt [⟨tg, iter, ifs, 0⟩] scope pos) (tScN w wi g tt (own.map (·.2)) (bAdd w te)) := by
  subst hw
  refine ⟨fun pins s σ H Q I h => ?_⟩
  rw [PpSet.eval_SetComp]
  refine scN_core (BODY := fun D env => addRun elt D env) (vb := []) hc hN I hi ok (fun i z => nomatch z) (fun env D it => by rfl) (fun env D it => by rfl) hg ht (fun D s H C cl fp => body_add rfl (he s H C cl fp) D) hs h fun D C s' m H' I' q hn f => ⟨m, hn, fun h'' sb => ?_⟩
  obtain ⟨f0, f1, f2, f3, f4, f5⟩ := f
  exact ⟨.ref D, H', I'.turned (t' := s'.toks) (fun b o hb e => (sb.2 b hb).trans e) f0 f1 f3 f4 f5, rfl, q⟩
/-- three fors -/
theorem pe_sc3 {tg iter tg1 iter1 tg2 iter2 : Expr} {ifs ifs1 ifs2 : List Expr} {scope : Scope} {own : List (Str × Nat)} {vs1 vs2 : List Nat} {pos : Pos} {wi wi1 wi2 : TI} {g g1 g2 : TG} {tt tt1 tt2 : TT} {w : World} (hc : X.calm = true) (hN : X.N.Nodup) (hi : PI X tg iter wi) (ok : BlkOk X.N X.env.scope scope own)
    (hv : (∀ i ∈ vs1, i ∈ own.map (·.2)) ∧ ∀ i ∈ vs2, i ∈ vs1)
    (hg : ∀ (s : Shared) (H : Hp) (C : Addr) (cl : List (Str × Addr)) (fp : List Addr), PG (X.blk s H scope (compEnvC scope cl C X.env) fp) tg g) (ht : ∀ (s : Shared) (H : Hp) (C : Addr) (cl : List (Str × Addr)) (fp : List Addr), PTs (X.blk s H scope (compEnvC scope cl C X.env) fp) ifs tt)
    (hi1 : ∀ (s : Shared) (H : Hp) (C : Addr) (cl : List (Str × Addr)) (fp : List Addr), PI (X.blk s H scope (compEnvC scope cl C X.env) fp) tg1 iter1 wi1)
    (hg1 : ∀ (s : Shared) (H : Hp) (C : Addr) (cl : List (Str × Addr)) (fp : List Addr), PG (X.blk s H scope (compEnvC scope cl C X.env) fp) tg1 g1) (ht1 : ∀ (s : Shared) (H : Hp) (C : Addr) (cl : List (Str × Addr)) (fp : List Addr), PTs (X.blk s H scope (compEnvC scope cl C X.env) fp) ifs1 tt1)
    (hi2 : ∀ (s : Shared) (H : Hp) (C : Addr) (cl : List (Str × Addr)) (fp : List Addr), PI (X.blk s H scope (compEnvC scope cl C X.env) fp) tg2 iter2 wi2)
    (hg2 : ∀ (s : Shared) (H : Hp) (C : Addr) (cl : List (Str × Addr)) (fp : List Addr), PG (X.blk s H scope (compEnvC scope cl C X.env) fp) tg2 g2) (ht2 : ∀ (s : Shared) (H : Hp) (C : Addr) (cl : List (Str × Addr)) (fp : List Addr), PTs (X.blk s H scope (compEnvC scope cl C X.env) fp) ifs2 tt2)
    (he : ∀ (s : Shared) (H : Hp) (C : Addr) (cl : List (Str × Addr)) (fp : List Addr), PE (X.blk s H scope (compEnvC scope cl C X.env) fp) elt te) (hs : ∀ x, foldedSetIterable iter X.env x = pure x := by intro _; rfl) (hs1 : ∀ env x, foldedSetIterable iter1 env x = pure x := by intro _ _; rfl) (hs2 : ∀ env x, foldedSetIterable iter2 env x = pure x := by intro _ _; rfl) (hw : X.w = w := by rfl) :
    PE X (.SetComp elt [⟨tg, iter, ifs, 0⟩, ⟨tg1, iter1, ifs1, 0⟩, ⟨tg2, iter2, ifs2, 0⟩] scope pos) (tScN w wi g tt (own.map (·.2)) fun D => bFor wi1 g1 tt1 vs1 (bFor wi2 g2 tt2 vs2 (bAdd w te D))) := by
  subst hw
  refine ⟨fun pins s σ H Q I h => ?_⟩
  rw [PpSet.eval_SetComp]
  refine scN_core (BODY := fun D env => innerRun (.SetComp elt [⟨tg, iter, ifs, 0⟩, ⟨tg1, iter1, ifs1, 0⟩, ⟨tg2, iter2, ifs2, 0⟩] scope pos) 1 (.ref D) env iter1) (vb := vs1) hc hN I hi ok hv.1 (fun env D it => by rfl) (fun env D it => by rfl) hg ht (fun D s H C cl fp => ?_) hs h fun D C s' m H' I' q hn f => ⟨m, hn, fun h'' sb => ?_⟩
  · have b2 := body_add (X := X.blk s H scope (compEnvC scope cl C X.env) fp) rfl (he s H C cl fp) D
    have b1 := body_for (X := X.blk s H scope (compEnvC scope cl C X.env) fp) (e := .SetComp elt [⟨tg, iter, ifs, 0⟩, ⟨tg1, iter1, ifs1, 0⟩, ⟨tg2, iter2, ifs2, 0⟩] scope pos) (k := 2) (acc := .ref D) (vs := vs2) hc rfl (fun it => by rfl) (fun it => by rfl) (fun R it s h0 h => compStart_k (by rfl) (by rfl) (by rfl) h0 h) (hi2 s H C cl fp) (hs2 _) (hg2 s H C cl fp) (ht2 s H C cl fp) b2 (fun i z => nomatch z)
    exact body_for (X := X.blk s H scope (compEnvC scope cl C X.env) fp) (e := .SetComp elt [⟨tg, iter, ifs, 0⟩, ⟨tg1, iter1, ifs1, 0⟩, ⟨tg2, iter2, ifs2, 0⟩] scope pos) (k := 1) (acc := .ref D) (vs := vs1) hc rfl (fun it => by rfl) (fun it => by rfl) (fun R it s h0 h => compStart_k (by rfl) (by rfl) (by rfl) h0 h) (hi1 s H C cl fp) (hs1 _) (hg1 s H C cl fp) (ht1 s H C cl fp) b1 hv.2
  obtain ⟨f0, f1, f2, f3, f4, f5⟩ := f
  exact ⟨.ref D, H', I'.turned (t' := s'.toks) (fun b o hb e => (sb.2 b hb).trans e) f0 f1 f3 f4 f5, rfl, q⟩
theorem ps_setSc1 {i : Nat} {y : Str} {py spos : Pos} {tg iter : Expr} {ifs : List Expr} {scope : Scope} {own : List (Str × Nat)} {pos : Pos} {wi : TI} {g : TG} {tt : TT} {w : World} (hc : X.calm = true) (hN : X.N.Nodup) (hy : X.N[i]? = some y) (hyl : X.env.scope.names.lookup y = some .local) (hsw : swapsWith (.SetComp elt [⟨tg, iter, ifs, 0⟩] scope pos) (some (.Name y py)) spos.line X.env = pure true) (hi : PI X tg iter wi) (ok : BlkOk X.N X.env.scope scope own)
    (hg : ∀ (s : Shared) (H : Hp) (C : Addr) (cl : List (Str × Addr)) (fp : List Addr), PG (X.blk s H scope (compEnvC scope cl C X.env) fp) tg g) (ht : ∀ (s : Shared) (H : Hp) (C : Addr) (cl : List (Str × Addr)) (fp : List Addr), PTs (X.blk s H scope (compEnvC scope cl C X.env) fp) ifs tt)
    (he : ∀ (s : Shared) (H : Hp) (C : Addr) (cl : List (Str × Addr)) (fp : List Addr), PE (X.blk s H scope (compEnvC scope cl C X.env) fp) elt te) (hs : ∀ x, foldedSetIterable iter X.env x = pure x := by intro _; rfl) (hw : X.w = w := by rfl) :
    PS X (.Assign [.Name y py] (.SetComp elt [⟨tg, iter, ifs, 0⟩] scope pos) spos) (tAsg (tScN w wi g tt (own.map (·.2)) (bAdd w te)) (gName i)) := by
  subst hw
  refine ⟨fun pins s σ H D I h => ?_⟩
  rw [exec_Assign_Name_used _ _ _ _ hsw]
  refine wpAny_bind (wpAny_standAt (wpAny_bind ?_))
  show wpAny _ X.A (do let _ ← comprehension (.SetComp elt [⟨tg, iter, ifs, 0⟩] scope pos) scope X.env (firstIterPos [⟨tg, iter, ifs, 0⟩] pos) (newSet (.type "set")) false (eval iter X.env) (some (assign (.Name y py) X.env))) _ _ s
  have h : (tScN X.w wi g tt (own.map (·.2)) (bAdd X.w te)) σ H (fun x H1 => gName i x σ H1 D.nx) := h
  refine wpAny_bind (thn (scN_core (Qf := fun _ s' => SP X pins D .next s') (use := some (assign (.Name y py) X.env)) (BODY := fun D env => addRun elt D env) (vb := []) hc hN I hi ok (fun i z => nomatch z) (fun env D it => by rfl) (fun env D it => by rfl) hg ht (fun D s H C cl fp => body_add rfl (he s H C cl fp) D) hs h fun L C s' m H' I' q hn f => ?_) fun _ s' hq => wpAny_pure (wpAny_pure hq))
  show wpAny _ _ (assign (.Name y py) X.env (.ref L)) _ _ _
  refine wpAny_assign_Name (store_ok2 (v := V.ref L) I' hN hy (.inl hyl) rfl (fun s2 I2 ⟨a, sb, ha⟩ => ?_) (.inr hyl))
  obtain ⟨f0, f1, f2, f3, f4, f5⟩ := f
  have haC : C ≠ a := by
    rcases ha with z | z
    · rw [z]; exact f1
    · exact fun e => f4 y a z e.symm
  refine ⟨m, hn.sameBut sb haC, fun h3 sb3 => ?_⟩
  exact ⟨_, H', I2.turned (t' := s2.toks) (fun b o hb e => (sb3.2 b hb).trans e) f0 f1 f3 f4 f5, q⟩
theorem ps_setSc3 {i : Nat} {y : Str} {py spos : Pos} {tg iter tg1 iter1 tg2 iter2 : Expr} {ifs ifs1 ifs2 : List Expr} {scope : Scope} {own : List (Str × Nat)} {vs1 vs2 : List Nat} {pos : Pos} {wi wi1 wi2 : TI} {g g1 g2 : TG} {tt tt1 tt2 : TT} {w : World} (hc : X.calm = true) (hN : X.N.Nodup) (hy : X.N[i]? = some y) (hyl : X.env.scope.names.lookup y = some .local) (hsw : swapsWith (.SetComp elt [⟨tg, iter, ifs, 0⟩, ⟨tg1, iter1, ifs1, 0⟩, ⟨tg2, iter2, ifs2, 0⟩] scope pos) (some (.Name y py)) spos.line X.env = pure true) (hi : PI X tg iter wi) (ok : BlkOk X.N X.env.scope scope own)
    (hv : (∀ i ∈ vs1, i ∈ own.map (·.2)) ∧ ∀ i ∈ vs2, i ∈ vs1)
    (hg : ∀ (s : Shared) (H : Hp) (C : Addr) (cl : List (Str × Addr)) (fp : List Addr), PG (X.blk s H scope (compEnvC scope cl C X.env) fp) tg g) (ht : ∀ (s : Shared) (H : Hp) (C : Addr) (cl : List (Str × Addr)) (fp : List Addr), PTs (X.blk s H scope (compEnvC scope cl C X.env) fp) ifs tt)
    (hi1 : ∀ (s : Shared) (H : Hp) (C : Addr) (cl : List (Str × Addr)) (fp : List Addr), PI (X.blk s H scope (compEnvC scope cl C X.env) fp) tg1 iter1 wi1)
    (hg1 : ∀ (s : Shared) (H : Hp) (C : Addr) (cl : List (Str × Addr)) (fp : List Addr), PG (X.blk s H scope (compEnvC scope cl C X.env) fp) tg1 g1) (ht1 : ∀ (s : Shared) (H : Hp) (C : Addr) (cl : List (Str × Addr)) (fp : List Addr), PTs (X.blk s H scope (compEnvC scope cl C X.env) fp) ifs1 tt1)
    (hi2 : ∀ (s : Shared) (H : Hp) (C : Addr) (cl : List (Str × Addr)) (fp : List Addr), PI (X.blk s H scope (compEnvC scope cl C X.env) fp) tg2 iter2 wi2)
    (hg2 : ∀ (s : Shared) (H : Hp) (C : Addr) (cl : List (Str × Addr)) (fp : List Addr), PG (X.blk s H scope (compEnvC scope cl C X.env) fp) tg2 g2) (ht2 : ∀ (s : Shared) (H : Hp) (C : Addr) (cl : List (Str × Addr)) (fp : List Addr), PTs (X.blk s H scope (compEnvC scope cl C X.env) fp) ifs2 tt2)
    (he : ∀ (s : Shared) (H : Hp) (C : Addr) (cl : List (Str × Addr)) (fp : List Addr), PE (X.blk s H scope (compEnvC scope cl C X.env) fp) elt te) (hs : ∀ x, foldedSetIterable iter X.env x = pure x := by intro _; rfl) (hs1 : ∀ env x, foldedSetIterable iter1 env x = pure x := by intro _ _; rfl) (hs2 : ∀ env x, foldedSetIterable iter2 env x = pure x := by intro _ _; rfl) (hw : X.w = w := by rfl) :
    PS X (.Assign [.Name y py] (.SetComp elt [⟨tg, iter, ifs, 0⟩, ⟨tg1, iter1, ifs1, 0⟩, ⟨tg2, iter2, ifs2, 0⟩] scope pos) spos) (tAsg (tScN w wi g tt (own.map (·.2)) fun D => bFor wi1 g1 tt1 vs1 (bFor wi2 g2 tt2 vs2 (bAdd w te D))) (gName i)) := by
  subst hw
  refine ⟨fun pins s σ H D I h => ?_⟩
  rw [exec_Assign_Name_used _ _ _ _ hsw]
  refine wpAny_bind (wpAny_standAt (wpAny_bind ?_))
  show wpAny _ X.A (do let _ ← comprehension (.SetComp elt [⟨tg, iter, ifs, 0⟩, ⟨tg1, iter1, ifs1, 0⟩, ⟨tg2, iter2, ifs2, 0⟩] scope pos) scope X.env (firstIterPos [⟨tg, iter, ifs, 0⟩, ⟨tg1, iter1, ifs1, 0⟩, ⟨tg2, iter2, ifs2, 0⟩] pos) (newSet (.type "set")) false (eval iter X.env) (some (assign (.Name y py) X.env))) _ _ s
  have h : (tScN X.w wi g tt (own.map (·.2)) fun D => bFor wi1 g1 tt1 vs1 (bFor wi2 g2 tt2 vs2 (bAdd X.w te D))) σ H (fun x H1 => gName i x σ H1 D.nx) := h
  refine wpAny_bind (thn (scN_core (Qf := fun _ s' => SP X pins D .next s') (use := some (assign (.Name y py) X.env)) (BODY := fun D env => innerRun (.SetComp elt [⟨tg, iter, ifs, 0⟩, ⟨tg1, iter1, ifs1, 0⟩, ⟨tg2, iter2, ifs2, 0⟩] scope pos) 1 (.ref D) env iter1) (vb := vs1) hc hN I hi ok hv.1 (fun env D it => by rfl) (fun env D it => by rfl) hg ht (fun D s H C cl fp => ?_) hs h fun L C s' m H' I' q hn f => ?_) fun _ s' hq => wpAny_pure (wpAny_pure hq))
  · have b2 := body_add (X := X.blk s H scope (compEnvC scope cl C X.env) fp) rfl (he s H C cl fp) D
    have b1 := body_for (X := X.blk s H scope (compEnvC scope cl C X.env) fp) (e := .SetComp elt [⟨tg, iter, ifs, 0⟩, ⟨tg1, iter1, ifs1, 0⟩, ⟨tg2, iter2, ifs2, 0⟩] scope pos) (k := 2) (acc := .ref D) (vs := vs2) hc rfl (fun it => by rfl) (fun it => by rfl) (fun R it s h0 h => compStart_k (by rfl) (by rfl) (by rfl) h0 h) (hi2 s H C cl fp) (hs2 _) (hg2 s H C cl fp) (ht2 s H C cl fp) b2 (fun i z => nomatch z)
    exact body_for (X := X.blk s H scope (compEnvC scope cl C X.env) fp) (e := .SetComp elt [⟨tg, iter, ifs, 0⟩, ⟨tg1, iter1, ifs1, 0⟩, ⟨tg2, iter2, ifs2, 0⟩] scope pos) (k := 1) (acc := .ref D) (vs := vs1) hc rfl (fun it => by rfl) (fun it => by rfl) (fun R it s h0 h => compStart_k (by rfl) (by rfl) (by rfl) h0 h) (hi1 s H C cl fp) (hs1 _) (hg1 s H C cl fp) (ht1 s H C cl fp) b1 hv.2
  show wpAny _ _ (assign (.Name y py) X.env (.ref L)) _ _ _
  refine wpAny_assign_Name (store_ok2 (v := V.ref L) I' hN hy (.inl hyl) rfl (fun s2 I2 ⟨a, sb, ha⟩ => ?_) (.inr hyl))
  obtain ⟨f0, f1, f2, f3, f4, f5⟩ := f
  have haC : C ≠ a := by
    rcases ha with z | z
    · rw [z]; exact f1
    · exact fun e => f4 y a z e.symm
  refine ⟨m, hn.sameBut sb haC, fun h3 sb3 => ?_⟩
  exact ⟨_, H', I2.turned (t' := s2.toks) (fun b o hb e => (sb3.2 b hb).trans e) f0 f1 f3 f4 f5, q⟩
theorem sw_trueS {elt : Expr} {gs : List Comprehension} {scope : Scope} {pos py : Pos} {y : Str} {l : Nat} {env : Env} (hk : env.scope.kind = .function) (hy : env.scope.names.lookup y = some .local) (hl : (py.line == pos.line) = true)
    (ha : (scope.names.any fun (n, k) => n == y && (k == .local || k == .cell)) = false) : swapsWith (.SetComp elt gs scope pos) (some (.Name y py)) l env = pure true := by
  have ky : env.kindOf y = some .local := hy
  have hb : env.blockKind = .function := by unfold Env.blockKind; rw [hk]; rfl
  unfold swapsWith
  simp only [hb, ky, ha, Expr.pos, hl]
  rfl
end
/-- a walk over turns, by the heap alone -/
theorem turns_w {J : It} {n : Nat} {G : Hp → Prop} {Y : Nat → Hp → V → Hp → Prop} (w : Walk J n G Y) {g : TG} {tt : TT} {vs : List Nat} {σw : L2.St} {bd : TBd} {Nx : Hp → Prop} {H0 : Hp} (Pv : Nat → Hp → Prop) (h0 : Pv 0 H0) (hG : ∀ i H, i ≤ n → Pv i H → G H)
    (hs : ∀ i x H H', i < n → Pv i H → Y i H x H' → g x σw H' fun σ2 H2 => wipe σ2 vs = σw ∧ tt σ2 H2 fun b H3 => if b = true then bd σ2 H3 (Pv (i + 1)) else Pv (i + 1) H3) (hd : ∀ H, Pv n H → Nx H) : tTurns J g tt vs σw bd Nx H0 := by
  refine ⟨fun i m H => m = n - i ∧ i ≤ n ∧ Pv i H, ⟨n, by simp, Nat.zero_le _, h0⟩, ?_⟩
  rintro i m H ⟨rfl, hi, p⟩
  have q := hG i H hi p
  by_cases hlt : i < n
  · exact .inr ⟨w.goes i H hlt q, Pv (i + 1), fun H' p' => ⟨n - (i + 1), by omega, rfl, hlt, p'⟩, fun x H' y => hs i x H H' hlt p (w.yields i H x H' hlt q y)⟩
  · have e : i = n := by omega
    subst e
    exact .inl ⟨w.stops H q, hd H p⟩
theorem wkx {J : It} {n : Nat} {G : Hp → Prop} {Y : Nat → Hp → V → Hp → Prop} (w : Walk J n G Y) {B : V → Hp → (Hp → Prop) → Prop} {Fin : Hp → Prop} {H0 : Hp} (Pv : Nat → Hp → Prop) (h0 : Pv 0 H0) (hG : ∀ i H, i ≤ n → Pv i H → G H)
    (hs : ∀ i x H H', i < n → Pv i H → Y i H x H' → B x H' (Pv (i + 1))) (hd : ∀ H, Pv n H → Fin H) :
    ∃ W : Nat → Nat → Hp → Prop, (∃ m, W 0 m H0) ∧ ∀ i m H, W i m H → (J.stop i H ∧ Fin H) ∨ (J.go i H ∧ ∃ Nx : Hp → Prop, (∀ H', Nx H' → ∃ m', m' < m ∧ W (i + 1) m' H') ∧ ∀ x H', J.yld i H x H' → B x H' Nx) := by
  refine ⟨fun i m H => m = n - i ∧ i ≤ n ∧ Pv i H, ⟨n, by simp, Nat.zero_le _, h0⟩, ?_⟩
  rintro i m H ⟨rfl, hi, p⟩
  have q := hG i H hi p
  by_cases hlt : i < n
  · exact .inr ⟨w.goes i H hlt q, Pv (i + 1), fun H' p' => ⟨n - (i + 1), by omega, rfl, hlt, p'⟩, fun x H' y => hs i x H H' hlt p (w.yields i H x H' hlt q y)⟩
  · have e : i = n := by omega
    subst e
    exact .inl ⟨w.stops H q, hd H p⟩
end SH
set_option Elab.async false
set_option linter.all false
set_option maxRecDepth 100000
set_option maxHeartbeats 4000000
/-! dict comprehensions whose keys are tuples -/
namespace SH
open PySem PySem.Spec PyProof.Rows L2
theorem d_dictSetT {X : Cx} {pins : List (Addr × Obj)} {σ : L2.St} {H : Hp} {s : Shared} {E : Value → Shared → Prop} {D b : Addr} {kvs : List (List L2.Key × V)} {k : List L2.Key} {v : V} {r : Value} {Q : Unit → Shared → Prop}
    (hu : X.A.units < cLine) (I : Inv X pins σ H s) (hD : H D = some (.dT kvs)) (hb : H b = some (.tup (k.map kV))) (hz : kvs.length < sizeLine) (rv : RelV v r) (h : ∀ s', Inv X pins σ (upd H D (.dT (putK kvs k v))) s' → Q () s') : wpAny (model X.prog X.w) X.A (dictSet D (.ref b) r) Q E s := by
  obtain ⟨z, hd, xs, rel, dd⟩ := dt_of I.hok hD
  have hzl : xs.length ≤ sizeLine := by rw [← Paired.length rel]; exact z
  have hl : (putK kvs k v).length ≤ sizeLine := by have := length_putK kvs k v; omega
  refine wpAny_dictSet_heap (knd := tupleKind (mixKind X.prog X.w)) hu (key_of I.hok hb) dd (fun h' dd' hs => h _ ?_) hzl
  have he : ∃ q, h'.get? D = some q := by
    obtain ⟨q, es, ep, hq, _⟩ := dd'
    exact ⟨q, hq⟩
  have nb : b ≠ D := fun e => by rw [e, hD] at hb; cases hb
  have k2 := (KT.put rel k hb rv).keeps (H' := upd H D (.dT (putK kvs k v))) fun c ys e => by
    rw [upd_ne fun z => by rw [z, hD] at e; cases e]
    exact e
  refine d_write I (by rw [hD]; trivial) hs he ⟨hl, hd, _, k2, ?_⟩
  obtain ⟨q, es, ep, h1, h2, h3, h4, h5⟩ := dd'
  exact ⟨q, es, ep, h1, h2, h3, h4, by first | exact h5 | exact h5.1 | exact h5.2⟩
/-- the entry is put in -/
def bPut (tk tv : TE) (D : Addr) : TBd := fun σ H Nx => tk σ H fun y H1 => tv σ H1 fun z H2 => ∃ (kvs : List (List L2.Key × V)) (k : List L2.Key) (b : Addr), y = .ref b ∧ H2 b = some (.tup (k.map kV)) ∧ H2 D = some (.dT kvs) ∧ kvs.length < sizeLine ∧ Nx (upd H2 D (.dT (putK kvs k z)))
def putRun (kx vx : Expr) (D : Addr) (env : Env) (c : Sem PySem.Fin) : Sem PySem.Fin := do
  (do let kv ← eval kx env
      let vv ← holding [kv] (eval vx env)
      standAt { kx.pos with endLine := vx.pos.endLine, endCol := vx.pos.endCol }
      holding [kv, vv] (dictSet D kv vv))
  c
/-- {kx: vx for tg in iter if ..} with tuples as keys -/
def tDcN (wi : TI) (g : TG) (tt : TT) (vs : List Nat) (bd : Addr → TBd) : TE := fun σ H Q => wi σ H fun J H1 => ∀ D, H1 D = none → tTurns J g tt vs (wipe σ vs) (bd D) (fun H' => Q (.ref D) H') (upd H1 D (.dT []))
section
variable {X : Cx} {elt : Expr}
theorem dcT_core {pins : List (Addr × Obj)} {s : Shared} {σ : L2.St} {H : Hp} {Q : VK} {tg iter : Expr} {ifs : List Expr} {kx vx : Expr} {scope : Scope} {own : List (Str × Nat)} {vb : List Nat} {pos pos' : Pos} {wi : TI} {g : TG} {tt : TT} {bd : Addr → TBd} {BODY : Addr → Env → Sem PySem.Fin → Sem PySem.Fin} {use : Option (Value → Sem Unit)} {Qf : Value → Shared → Prop}
    (hc : X.calm = true) (hN : X.N.Nodup) (I : Inv X pins σ H s) (hi : PI X tg iter wi) (ok : BlkOk X.N X.env.scope scope own) (hv : ∀ i ∈ vb, i ∈ own.map (·.2))
    (heq : ∀ (env : Env) (D : Addr) (it : Value), (model X.prog X.w).den (Code.compLoop (.DictComp kx vx [⟨tg, iter, ifs, 0⟩] scope pos) 0 it (.ref D) env) = (clauseTurn (.DictComp kx vx [⟨tg, iter, ifs, 0⟩] scope pos) 0 it (.ref D) env tg iter ifs (BODY D env)).onRaise (fun x => do noteFrame x env; theTreesLotGoes x))
    (hun : ∀ (env : Env) (D : Addr) (it : Value), X.A.under (Code.compLoop (.DictComp kx vx [⟨tg, iter, ifs, 0⟩] scope pos) 0 it (.ref D) env) = X.A)
    (hg : ∀ (s : Shared) (H : Hp) (C : Addr) (cl : List (Str × Addr)) (fp : List Addr), PG (X.blk s H scope (compEnvC scope cl C X.env) fp) tg g) (ht : ∀ (s : Shared) (H : Hp) (C : Addr) (cl : List (Str × Addr)) (fp : List Addr), PTs (X.blk s H scope (compEnvC scope cl C X.env) fp) ifs tt)
    (hb : ∀ (D : Addr) (s : Shared) (H : Hp) (C : Addr) (cl : List (Str × Addr)) (fp : List Addr), BodyOk (X.blk s H scope (compEnvC scope cl C X.env) fp) (BODY D (compEnvC scope cl C X.env)) (bd D) vb) (hs : ∀ x, foldedSetIterable iter X.env x = pure x)
    (h : tDcN wi g tt (own.map (·.2)) bd σ H Q)
    (hRR : ∀ D C s' m H', Inv X pins σ H' s' → Q (.ref D) H' → s'.heap.Ns C m → FpOk X pins H' C → compPost (model X.prog X.w) X.A X.xe use Qf (.ref D) C (.ok .next) s') :
    wpAny (model X.prog X.w) X.A (comprehension (.DictComp kx vx [⟨tg, iter, ifs, 0⟩] scope pos) scope X.env pos' (newDict [].toArray) false (eval iter X.env) use) Qf X.xe s := by
  have hfree : ∀ y ∈ scope.names, y.2 = .free → ∃ c, X.env.cells.lookup y.1 = some c := fun y hy e => by
    rcases ok.free y hy e with k | k
    · exact I.ok.has _ (.inl k)
    · exact I.ok.has _ (.inr k)
  refine wpAny_comprehension_free (use := use) rfl hs (closure_ok hfree) ok.kind (fun y hy e => by rw [ok.uniq y hy, e])
    (thn (hi.run pins s σ H _ I h) fun xv s1 hx => thn hx fun itv s2 h2 => ?_)
  obtain ⟨it, fp, tn, J, H2, e, I2, T, st2, f2, q⟩ := h2
  subst e
  refine wpAny_newObj_type (newEnv_comp ?_) (Nat.zero_le _)
  generalize hD : s2.heap.objs.size = D
  have hDn : H2 D = none := I2.hok.fresh (Nat.le_of_eq hD)
  have q := q D hDn
  generalize hs3 : ({ s2 with heap := s2.heap.push { cls := .type "dict", dict := none, data := .dict #[] } } : Shared) = s3
  have I3 : Inv X pins σ (upd H2 D (.dT [])) s3 := by
    rw [← hs3]
    refine I2.laid (t' := s2.toks) (fun b o e => Heap.get?_push_of_some _ e) (Nat.le_of_eq hD) ?_
    rw [← hD]
    exact dt_empty _ I2.big
  have h3 : s3.heap = s2.heap.push { cls := .type "dict", dict := none, data := .dict #[] } := by rw [← hs3]
  have sz : ∀ b ∈ fp, b < s2.heap.objs.size := fun b hb => by
    obtain ⟨o, e, _⟩ := T.obj _ _ st2 b hb
    exact Heap.lt_size e
  have f3 : ∀ b ∈ fp, FpOk X pins (upd H2 D (.dT [])) b ∧ b < s3.heap.objs.size := fun b hb => by
    have hlt := sz b hb
    refine ⟨⟨?_, (f2 b hb).2⟩, by rw [h3, Heap.size_push]; exact Nat.lt_succ_of_lt hlt⟩
    rw [upd_ne (by rw [← hD]; exact Nat.ne_of_lt hlt)]
    exact (f2 b hb).1
  have st3 : tn 0 s3.heap := T.keep _ _ _ st2 fun b _ o e => by rw [h3]; exact Heap.get?_push_of_some _ e
  have I4 := block_start I3 ok hN f3
  have pg := hg s3 (upd H2 D (.dT [])) s3.heap.objs.size (cellsFrom (s3.heap.objs.size + 1) scope.names (cloFrom X.env.cells scope.names [])) fp
  have pt := ht s3 (upd H2 D (.dT [])) s3.heap.objs.size (cellsFrom (s3.heap.objs.size + 1) scope.names (cloFrom X.env.cells scope.names [])) fp
  have pb := hb D s3 (upd H2 D (.dT [])) s3.heap.objs.size (cellsFrom (s3.heap.objs.size + 1) scope.names (cloFrom X.env.cells scope.names [])) fp
  show codeAny _ _ (.compStart (.DictComp kx vx [⟨tg, iter, ifs, 0⟩] scope pos) 0 (.ref it) (.ref D) (compEnvC scope (cellsFrom (s3.heap.objs.size + 1) scope.names (cloFrom X.env.cells scope.names [])) s3.heap.objs.size X.env)) (compPost (model X.prog X.w) X.A X.xe use Qf (.ref D) s3.heap.objs.size) { s3 with heap := pushCells (s3.heap.push { cls := .type "dict", data := .dict #[] }) scope.names }
  have nfp : ∀ b ∈ fp, (upd H2 D (.dT [])) b = none := fun b hb => (f3 b hb).1.1
  generalize hce : compEnvC scope (cellsFrom (s3.heap.objs.size + 1) scope.names (cloFrom X.env.cells scope.names [])) s3.heap.objs.size X.env = ce at I4 pg pt pb ⊢
  have cL : ce.locals = s3.heap.objs.size := by subst hce; rfl
  generalize hH3 : upd H2 D (.dT []) = H3 at I3 I4 pg pt pb q nfp f3
  generalize hs4 : ({ s3 with heap := pushCells (s3.heap.push { cls := .type "dict", data := .dict #[] }) scope.names } : Shared) = s4 at I4 ⊢
  have st4 : tn 0 s4.heap := T.keep _ _ _ st3 fun b _ o e => by rw [← hs4]; exact pushCells_keeps _ _ _ _ (Heap.get?_push_of_some _ e)
  have stat : ∀ b ∈ fp, FpOk (X.blk s3 H3 scope ce fp) [] H3 b := fun b hb =>
    ⟨nfp b hb, (I4.ok.exf b hb).1, I4.ok.exfs b hb, .inl hb, fun x c e => (I4.ok.exf b hb).2 x c e, fun p hp => absurd (show p ∈ ([] : List (Addr × Obj)) ++ [] from hp) (by simp)⟩
  have loop : codeAny (model X.prog X.w) X.A (.compLoop (.DictComp kx vx [⟨tg, iter, ifs, 0⟩] scope pos) 0 (.ref it) (.ref D) ce) (compPost (model X.prog X.w) X.A X.xe use Qf (.ref D) s3.heap.objs.size) s4 := by
    refine loop_ok (X := X.blk s3 H3 scope ce fp) (pins := []) hc (heq ce D) (hun ce D) pg pt pb hv rfl T I4 st4 stat q fun s6 H5 I6 qq => ?_
    have I7 : Inv X pins σ H5 s6 := I3.call' (ch := fp) I6.os I6.base I6.hok I6.bare fun b hb => ⟨(f3 b hb).1.2.2.2.1, (f3 b hb).1.2.1, (f3 b hb).1.2.2.2.2.1, (f3 b hb).1.2.2.2.2.2⟩
    have nC : H5 s3.heap.objs.size = none := by
      have z : H5 ce.locals = none := I6.free
      rw [cL] at z
      exact z
    obtain ⟨m, hn, _⟩ := I6.loc
    have hn : s6.heap.Ns ce.locals m := hn
    rw [cL] at hn
    exact hRR D s3.heap.objs.size s6 m H5 I7 qq hn (I3.fpOk (Nat.le_refl _) nC)
  exact codeAny_compStart_dict loop (T.self X.A 0 _ _ _ st4 loop)
end
section
variable {X : Cx} {kx vx : Expr} {tk tv : TE}
theorem body_put (hu : X.A.units < cLine) (hxe : X.xe = fun _ _ => False) (hk : PE X kx tk) (hv : PE X vx tv) (D : Addr) : BodyOk X (putRun kx vx D X.env) (bPut tk tv D) [] := by
  intro pins s σ H Nx c Qc I h hcc
  have pk := hk.run
  have pv := hv.run
  rw [hxe] at pk pv
  unfold putRun
  refine wpAny_bind (wpAny_bind (thnF (pk pins s σ H _ I h) fun u s1 ⟨y, H1, I1, r1, q1⟩ => ?_))
  refine wpAny_bind (wpAny_holding (thnF (pv pins s1 σ H1 _ I1 q1) fun u2 s2 ⟨z, H2, I2, r2, kvs, k, b, ey, hb, hD, room, q⟩ => ?_))
  subst ey
  obtain rfl : u = Value.ref b := r1
  refine wpAny_bind (wpAny_standAt (wpAny_holding ?_))
  exact d_dictSetT hu I2 hD hb room r2 fun s' I' => hcc s' _ I' q
/-- {kx: vx for tg in iter if ..}: the keys are tuples -/
theorem pe_dcT {tg iter : Expr} {ifs : List Expr} {scope : Scope} {own : List (Str × Nat)} {pos : Pos} {wi : TI} {g : TG} {tt : TT} (hu : X.A.units < cLine) (hc : X.calm = true) (hN : X.N.Nodup) (hi : PI X tg iter wi) (ok : BlkOk X.N X.env.scope scope own)
    (hg : ∀ (s : Shared) (H : Hp) (C : Addr) (cl : List (Str × Addr)) (fp : List Addr), PG (X.blk s H scope (compEnvC scope cl C X.env) fp) tg g) (ht : ∀ (s : Shared) (H : Hp) (C : Addr) (cl : List (Str × Addr)) (fp : List Addr), PTs (X.blk s H scope (compEnvC scope cl C X.env) fp) ifs tt)
    (hk : ∀ (s : Shared) (H : Hp) (C : Addr) (cl : List (Str × Addr)) (fp : List Addr), PE (X.blk s H scope (compEnvC scope cl C X.env) fp) kx tk) (hv : ∀ (s : Shared) (H : Hp) (C : Addr) (cl : List (Str × Addr)) (fp : List Addr), PE (X.blk s H scope (compEnvC scope cl C X.env) fp) vx tv) (hs : ∀ x, foldedSetIterable iter X.env x = pure x := by intro _; rfl) :
    PE X (.DictComp kx vx [⟨tg, iter, ifs, 0⟩] scope pos) (tDcN wi g tt (own.map (·.2)) (bPut tk tv)) := by
  refine ⟨fun pins s σ H Q I h => ?_⟩
  rw [arm_eval_DictComp]
  refine dcT_core (BODY := fun D env => putRun kx vx D env) (vb := []) hc hN I hi ok (fun i z => nomatch z) (fun env D it => by rfl) (fun env D it => by rfl) hg ht (fun D s H C cl fp => body_put (X := X.blk s H scope (compEnvC scope cl C X.env) fp) hu rfl (hk s H C cl fp) (hv s H C cl fp) D) hs h fun D C s' m H' I' q hn f => ⟨m, hn, fun h'' sb => ?_⟩
  obtain ⟨f0, f1, f2, f3, f4, f5⟩ := f
  exact ⟨.ref D, H', I'.turned (t' := s'.toks) (fun b o hb e => (sb.2 b hb).trans e) f0 f1 f3 f4 f5, rfl, q⟩
end
end SH
set_option Elab.async false
set_option linter.all false
set_option maxRecDepth 100000
set_option maxHeartbeats 4000000
/-! sorted(a dict whose keys are texts), of any size -/
namespace SH
open PySem PySem.Spec PyProof.Rows L2
section
variable {X : Cx}
def rSortDS : List V → Hp → VK → Prop := fun xs H Q => ∃ (a : Addr) (kvs : List (Key × V)) (ks : List Str), xs = [.ref a] ∧ Rd H a (.dK kvs) ∧ kvs.map (·.1) = ks.map Sum.inr ∧
    ∀ p, H p = none → Q (.ref p) (upd H p (.lst ((ks.mergeSort (PySem.W.dataLe false PyData.str)).map V.str)))
theorem cr_sortDS (hcalm : X.calm = true) (hu : X.A.units + 64 < cLine) : CallR X (.builtin "sorted") rSortDS := by
  intro pins s σ H xs us Q I r q
  obtain ⟨a, kvs, ks, ex, hd, hks, q⟩ := q
  subst ex
  obtain ⟨u, eu, rx⟩ := vals1 r
  subst eu
  cases rx
  obtain ⟨z, lo, vs, rel, dd⟩ := dk_rd I.hok hd
  obtain ⟨ep, hat⟩ := dd.dictAt
  have hkeys : vs.map (·.1) = ks.map Sum.inr := rel.keys.symm.trans hks
  have hl : vs.length = ks.length := by
    have e := congrArg List.length hkeys
    rw [List.length_map, List.length_map] at e
    exact e
  have h16 : vs.length ≤ sizeLine := by rw [← rel.length]; exact z
  refine Calls.call_function_entry PyProof.Rows.kind_sorted PyProof.Rows.plain_sorted PyProof.Rows.entry_sorted (PyProof.Rows.args_sorted1 _) ?_
  unfold Builtin.«sorted»
  refine wpAny_bind (m := checkCount "sorted" 1 1 _) (wpAny_pure ?_)
  refine wpAny_bind (PySem.W.kdu_collect (A := X.A.in1) (PySem.W.kdl_dict (knd := mixKind X.prog X.w) (kvs := vs) (ep := ep) lo) (I.ok.hd hcalm) hat h16 fun h' tk acc hk hacc => ?_)
  have hal : acc.toList.length = ks.length := by rw [Array.length_toList, hacc.1, hl]
  have hS : StrsAre acc.toList ks := strs_at hal fun j v e => by
    obtain ⟨k, x, e1, e2⟩ := hacc.2 j v (by rw [← Array.getElem?_toList]; exact e)
    have e3 : (vs.map (·.1))[j]? = some k := by rw [List.getElem?_map, e1]; all_goals rfl
    rw [hkeys, List.getElem?_map] at e3
    cases e4 : ks[j]? with
    | none => rw [e4] at e3; cases e3
    | some y =>
      rw [e4] at e3
      have e5 : Sum.inr y = k := Option.some.inj e3
      subst e5
      obtain ⟨t, ev⟩ := Value.isStrOf_shape (x := y) (v := v) e2
      exact ⟨y, t, rfl, ev⟩
  have I1 : Inv X pins σ H { s with heap := h', toks := tk } := I.kept hk
  have hsl : acc.toList.length ≤ sizeLine := by rw [hal, ← hl]; exact h16
  refine wpAny_bind (wpAny_newList ?_ hsl)
  have hoL : (h'.push (seqObj "list" acc.toList.toArray 0)).get? h'.objs.size = some (seqObj "list" acc.toList.toArray 0) := Heap.get?_push_size _ rfl
  show wpAny _ _ _ _ _ { s with heap := h'.push (seqObj "list" acc.toList.toArray 0), toks := tk }
  have e := each_of_map V.str (vals_of_strs hS)
  have er : PySem.W.EachIs (fun v z => ∃ as, Reads (h'.push (seqObj "list" acc.toList.toArray 0)) v (PyData.str z) as ∧ h'.objs.size ∉ as) acc.toList ks := e.mono fun v z r => ⟨[], by obtain ⟨t, rfl⟩ := r; exact .str z t, by simp⟩
  refine wpAny_bind (wpAny_holding (PySem.W.list_sort_data (enc := PyData.str) (s := { s with heap := h'.push (seqObj "list" acc.toList.toArray 0), toks := tk }) hoL e er (PySem.W.AllAlike.of fun b b' => by simp [PySem.W.alike]) (PySem.W.Sortable.others fun b => ⟨by simp, fun xs => by simp⟩) (by rw [← hal]; exact hsl) (fun z hz' => ?_) (fun out2 ho2 eo => ?_)))
  · show X.A.in1.units + 1 + 0 < cLine
    have e2 : X.A.in1.units = X.A.units + 1 := rfl
    omega
  · obtain ⟨c, hcc⟩ := sortedHeap_at (vs := acc.toList) (out := out2.toArray) hoL
    refine wpAny_pure ⟨_, rfl, .ref h'.objs.size, upd H h'.objs.size (.lst ((ks.mergeSort (PySem.W.dataLe false PyData.str)).map V.str)), I1.laid (t' := tk) (fun b u e => ?_) (Nat.le_refl _)
      (show ObjOk X.prog X.w _ _ _ (.lst ((ks.mergeSort (PySem.W.dataLe false PyData.str)).map V.str)) from ⟨by rw [List.length_map, List.length_mergeSort, ← hal]; exact hsl, out2, c, map_of_each _ eo, hcc⟩), rfl, q _ (I1.hok.fresh (Nat.le_refl _))⟩
    have hb : b < h'.objs.size := Heap.lt_size e
    rw [PyProof.Rows.sortedHeap_old (Nat.ne_of_lt hb) (by rw [size_push']; exact Nat.lt_succ_of_lt hb)]
    exact Heap.get?_push_of_some _ e
end
end SH
set_option Elab.async false
set_option linter.all false
set_option maxRecDepth 100000
set_option maxHeartbeats 4000000
/-! dicts whose keys are tuples: compared, sorted, popped, told by repr -/
namespace SH
open PySem PySem.Spec PyProof.Rows L2
section
variable {κ : Type} [DecidableEq κ]
abbrev CE (κ : Type) := List (κ × PyData)
def lookE (C : CE κ) (k : κ) : Option PyData := (C.find? fun c => decide (c.1 = k)).map (·.2)
def hitsE (E : CE κ) : CE κ → Bool
  | [] => true
  | c :: r => match lookE E c.1 with
    | none => false
    | some l => PyData.eqv c.2 l && hitsE E r
def sameE (C E : CE κ) : Bool := decide (C.length = E.length) && hitsE E C
def RowE (K : PySem.W.Frag) (H : Hp) : List (κ × V) → CE κ → Prop := Paired fun p c => p.1 = c.1 ∧ Dp K H p.2 c.2 ∧ SeqAt.shaped c.2 = true
theorem RowE.look {K : PySem.W.Frag} {H : Hp} {ls : List (κ × V)} {E : CE κ} (h : RowE K H ls E) (k : κ) : (valV ls k = none ∧ lookE E k = none) ∨ ∃ v d, valV ls k = some v ∧ lookE E k = some d ∧ Dp K H v d ∧ SeqAt.shaped d = true := by
  unfold RowE at h
  induction h with
  | nil => exact .inl ⟨rfl, rfl⟩
  | @cons p c ps cs hh t ih =>
    obtain ⟨h1, h2, h3⟩ := hh
    by_cases e : p.1 = k
    · refine .inr ⟨p.2, c.2, valV_pos e, ?_, h2, h3⟩
      unfold lookE
      rw [List.find?_cons_of_pos (by simp [← h1, e])]
      rfl
    · rw [valV_neg e]
      unfold lookE
      rw [List.find?_cons_of_neg (by simp [← h1, e])]
      exact ih
theorem RowE.same {K : PySem.W.Frag} {H H' : Hp} (e : Same H H') {ls : List (κ × V)} {C : CE κ} (h : RowE K H ls C) : RowE K H' ls C := by
  unfold RowE at h ⊢
  induction h with
  | nil => exact .nil
  | cons hh _ ih => exact .cons ⟨hh.1, dp_same e hh.2.1, hh.2.2⟩ ih
theorem lookE_mem {C : CE κ} (nd : (C.map (·.1)).Nodup) : ∀ c ∈ C, lookE C c.1 = some c.2 := by
  induction C with
  | nil => intro c h; cases h
  | cons x r ih =>
    rw [List.map_cons, List.nodup_cons] at nd
    intro c hc
    unfold lookE
    rcases List.mem_cons.mp hc with rfl | hc
    · rw [List.find?_cons_of_pos (by simp)]; rfl
    · rw [List.find?_cons_of_neg (by simpa using fun e => nd.1 (by rw [e]; exact List.mem_map.mpr ⟨c, hc, rfl⟩))]
      exact ih nd.2 c hc
theorem hitsE_self {E : CE κ} (nd : (E.map (·.1)).Nodup) (rf : ∀ c ∈ E, PyData.eqv c.2 c.2 = true) : ∀ C : CE κ, (∀ c ∈ C, c ∈ E) → hitsE E C = true
  | [], _ => rfl
  | c :: r, h => by
    unfold hitsE
    rw [lookE_mem nd c (h c (List.mem_cons_self ..))]
    show (PyData.eqv c.2 c.2 && hitsE E r) = true
    rw [rf c (h c (List.mem_cons_self ..)), hitsE_self nd rf r fun x hx => h x (List.mem_cons_of_mem _ hx)]
    rfl
theorem sameE_self {E : CE κ} (nd : (E.map (·.1)).Nodup) (rf : ∀ c ∈ E, PyData.eqv c.2 c.2 = true) : sameE E E = true := by
  unfold sameE
  rw [hitsE_self nd rf E fun _ h => h]
  simp
end
/-! ### compared -/
section
variable {P : Program} {w : World} {κ : Type} [DecidableEq κ] {knd : HeapKind P w κ} {A : Around} {E : Value → Shared → Prop} {s : Shared}
theorem pairsH_same {nm : String} {a b : Addr} {xa xb : List (κ × Addr × Value)} {r : Bool} {Q : Bool → Shared → Prop} (ha : (a == sysModules) = false) (hb : (b == sysModules) = false) (hroom : knd.room A)
    (da : s.heap.DictOfH knd a xa) (db : s.heap.DictOfH knd b xb) (hits : xa.length = xb.length → PySem.W.KeqHits A s (kvsOf xb) (kvsOf xa) r) (h : Q (xa.length == xb.length && r) s) :
    wpAny (model P w) A (Builtin.Dict.samePairs nm a b) Q E s := by
  obtain ⟨oa, ea, pa, hoa, _, hda, hea, hia, hna⟩ := da
  obtain ⟨ob, eb, pb, hob, _, hdb, heb, hib, hnb⟩ := db
  have la : ea.size = xa.length := size_of_entries hea
  have lb : eb.size = xb.length := size_of_entries heb
  have lk : (kvsOf xa).length = ea.size := by rw [la]; exact List.length_map ..
  rw [← la, ← lb] at h
  unfold Builtin.Dict.samePairs Builtin.Dict.showsAll
  rw [if_neg (show ¬ (a == sysModules) = true by rw [ha]; exact Bool.false_ne_true), if_neg (show ¬ (b == sysModules) = true by rw [hb]; exact Bool.false_ne_true)]
  refine wpAny_bind (wpAny_pure (wpAny_bind (wpAny_pure (wpAny_bind (wpAny_dictEntries hoa hda ?_)))))
  dsimp only
  refine wpAny_bind (wpAny_dictEntries hob hdb ?_)
  by_cases hz : ea.size = eb.size
  case neg =>
    rw [if_pos (by simpa using hz)]
    rw [show (ea.size == eb.size) = false by simpa using hz, Bool.false_and] at h
    exact wpAny_bind (wpAny_rule (wpAny_pure h))
  have hq : Q r s := by simpa [hz] using h
  have all := hits (by rw [← la, ← lb]; exact hz)
  rw [if_neg (by rw [hz]; simp)]
  refine wpAny_bind (wpAny_dictEpoch hoa hda (wpAny_bind ?_))
  rw [Std.Legacy.Range.forIn_eq_forIn_range']
  simp only [Std.Legacy.Range.size, Nat.sub_zero, Nat.add_sub_cancel, Nat.div_one]
  refine wpAny_forIn_list _ (fun rest q t => t = s ∧ q = (none, ()) ∧ ∃ i, rest = List.range' i (ea.size - i) ∧ i ≤ ea.size ∧ PySem.W.KeqHits A s (kvsOf xb) ((kvsOf xa).drop i) r) _ ?_ ?_ _ _ ⟨rfl, rfl, 0, by simp, Nat.zero_le _, all⟩
  · rintro x rest q t ⟨rfl, rfl, i, hr, hi, pre⟩
    have lt : i < ea.size := Nat.lt_of_not_le fun z => by
      rw [Nat.sub_eq_zero_of_le z] at hr
      simp at hr
    have cut : ea.size - i = (ea.size - (i + 1)) + 1 := by omega
    rw [cut, List.range'_succ] at hr
    injection hr with e1 e2
    subst e1
    have lx : x < xa.length := la ▸ lt
    have ex := entry_at hea x
    rw [Array.getElem?_eq_getElem lt, List.getElem?_eq_getElem lx, Option.map_some] at ex
    have ey : ea[x] = entryOfKey knd xa[x] := Option.some.inj ex
    have hd : (kvsOf xa).drop x = (xa[x].1, xa[x].2.2) :: (kvsOf xa).drop (x + 1) := by
      rw [List.drop_eq_getElem_cons (by rw [lk]; exact lt)]
      simp [kvsOf]
    have kx := hia _ (List.getElem_mem lx)
    rw [hd] at pre
    refine wpAny_bind (wpAny_dictEntries hoa hda ?_)
    rw [Array.getElem?_eq_getElem lt]
    show wpAny _ _ (holding [ea[x].key, ea[x].val] _ >>= _) _ _ _
    rw [ey]
    refine wpAny_bind (wpAny_holding (wpAny_bind (wpAny_dictFind_heap hroom kx hob hdb heb hib hnb (fun miss => ?_) fun j p there => ?_)))
    · have nv : valueAt (kvsOf xb) xa[x].1 = none := by rw [valueAt_kvsOf, atKey_none_of_get miss]; rfl
      rcases pre.inv with ⟨_, er⟩ | ⟨y, _, _, hy, _⟩
      · rw [er] at hq
        refine wpAny_pure ?_
        show wpAny _ _ (if (!false) = true then _ else _) _ _ _
        rw [if_pos (by decide)]
        exact wpAny_pure (wpAny_pure hq)
      · rw [nv] at hy; cases hy
    · have sv : valueAt (kvsOf xb) xa[x].1 = some p.2 := by rw [valueAt_kvsOf, atKey_of_get hnb there]; rfl
      have ej : eb[j]? = Option.some (entryOfKey knd (xa[x].1, p)) := by rw [entry_at heb j, there]; rfl
      refine wpAny_bind (wpAny_dictEntries hob hdb ?_)
      rw [ej]
      rcases pre.inv with ⟨hn, _⟩ | ⟨y, e, b', hy, he, hrr, er⟩
      · rw [sv] at hn; cases hn
      obtain rfl : p.2 = y := Option.some.inj (sv.symm.trans hy)
      refine wpAny_holding (he P w _ _ ?_)
      cases e with
      | false =>
        rw [er, Bool.false_and] at hq
        show wpAny _ _ (if (!false) = true then _ else _) _ _ _
        rw [if_pos (by decide)]
        exact wpAny_pure (wpAny_pure hq)
      | true =>
        rw [Bool.true_and] at er
        rw [← er] at hrr
        show wpAny _ _ (if (!true) = true then _ else _) _ _ _
        rw [if_neg (by decide)]
        refine wpAny_bind (wpAny_dictEpoch hoa hda ?_)
        rw [if_neg (by simp)]
        exact wpAny_pure ⟨rfl, rfl, x + 1, e2, lt, hrr⟩
  · rintro q t ⟨rfl, rfl, i, hr, hi, pre⟩
    have ei : i = ea.size := Nat.le_antisymm hi (Nat.le_of_not_lt fun z => by
      have cut : ea.size - i = (ea.size - (i + 1)) + 1 := by omega
      rw [cut, List.range'_succ] at hr
      cases hr)
    refine wpAny_pure ?_
    rw [ei, ← lk, List.drop_length] at pre
    cases pre
    exact hq
theorem eqH_ok {a b : Addr} {xa xb : List (κ × Addr × Value)} {r : Bool} {Q : Value → Shared → Prop} (ha : (a == sysModules) = false) (hb : (b == sysModules) = false) (hroom : knd.room A.in1)
    (da : s.heap.DictOfH knd a xa) (db : s.heap.DictOfH knd b xb) (hu : A.units < cLine) (hits : xa.length = xb.length → PySem.W.KeqHits A.in1 s (kvsOf xb) (kvsOf xa) r) (h : Q (.bool (xa.length == xb.length && r)) s) :
    wpAny (model P w) A (compareOp .Eq (.ref a) (.ref b)) Q E s := by
  refine wpAny_richCompare_same_room (op := .Eq) da.typeIs db.typeIs PySem.F.slot_dict_eq (wpAny_call_entry PySem.F.slot_dict_eq da.typeIs PySem.F.entry_dict_eq ?_ (PySem.F.args_dict_eq_2 _ _)) hu
  refine wpAny_bind (m := Builtin.Dict.dictSlotArgs "__eq__" ⟨[.ref a, .ref b], []⟩) ?_
  unfold Builtin.Dict.dictSlotArgs
  refine wpAny_bind (wpAny_notOrdered_dict da.typeIs (wpAny_pure (wpAny_bind (wpAny_isInstance (T := "dict") db.typeIs PySem.F.sub_dict_dict ?_))))
  simp only [Bool.not_true, Bool.false_eq_true, if_false]
  refine wpAny_bind (wpAny_pure (wpAny_bind (wpAny_pure (wpAny_bind (pairsH_same ha hb hroom da db hits ?_)))))
  exact wpAny_pure ⟨_, rfl, fun z => (by cases z), by simpa using h⟩
theorem neH_ok {a b : Addr} {xa xb : List (κ × Addr × Value)} {r : Bool} {Q : Value → Shared → Prop} (ha : (a == sysModules) = false) (hb : (b == sysModules) = false) (hroom : knd.room A.in1)
    (da : s.heap.DictOfH knd a xa) (db : s.heap.DictOfH knd b xb) (hu : A.units < cLine) (hits : xa.length = xb.length → PySem.W.KeqHits A.in1 s (kvsOf xb) (kvsOf xa) r) (h : Q (.bool (!(xa.length == xb.length && r))) s) :
    wpAny (model P w) A (compareOp .NotEq (.ref a) (.ref b)) Q E s := by
  refine wpAny_richCompare_same_room (op := .NotEq) da.typeIs db.typeIs PySem.F.slot_dict_ne (wpAny_call_entry PySem.F.slot_dict_ne da.typeIs PySem.F.entry_dict_ne ?_ (PySem.F.args_dict_ne_2 _ _)) hu
  refine wpAny_bind (m := Builtin.Dict.dictSlotArgs "__ne__" ⟨[.ref a, .ref b], []⟩) ?_
  unfold Builtin.Dict.dictSlotArgs
  refine wpAny_bind (wpAny_notOrdered_dict da.typeIs (wpAny_pure (wpAny_bind (wpAny_isInstance (T := "dict") db.typeIs PySem.F.sub_dict_dict ?_))))
  simp only [Bool.not_true, Bool.false_eq_true, if_false]
  refine wpAny_bind (wpAny_pure (wpAny_bind (wpAny_pure (wpAny_bind (pairsH_same ha hb hroom da db hits ?_)))))
  exact wpAny_pure ⟨_, rfl, fun z => (by cases z), by simpa using h⟩
end
abbrev CT := CE (List Key)
theorem hits_tt {X : Cx} {pins : List (Addr × Obj)} {σ : L2.St} {H : Hp} {s : Shared} (I : Inv X pins σ H s) {A : Around} (hu : A.units + 64 < cLine) {ls : List (List Key × V)} {vb : List (List Key × Addr × Value)} (rb : KT H ls vb) {E : CT} (hE : RowE X.K H ls E) :
    ∀ {C : CT} {ks : List (List Key × V)} {va : List (List Key × Addr × Value)}, KT H ks va → RowE X.K H ks C → PySem.W.KeqHits A s (kvsOf vb) (kvsOf va) (hitsE E C)
  | [], _, _, ra, h => by
    cases h
    cases ra
    exact .nil
  | c :: r, _, _, ra, h => by
    cases h with
    | @cons p _ ps _ hh t =>
      cases ra with
      | @cons _ q _ qs rr rt =>
        obtain ⟨h1, h2, h3⟩ := hh
        obtain ⟨r1, _, r2⟩ := rr
        have ih := hits_tt I hu rb hE (C := r) rt t
        obtain ⟨key, ad, v⟩ := q
        obtain rfl : key = c.1 := by rw [← h1]; exact r1.symm
        have rv := rb.val c.1
        rw [← valueAt_kvsOf] at rv
        show PySem.W.KeqHits A s (kvsOf vb) ((c.1, v) :: kvsOf qs) _
        unfold hitsE
        rcases hE.look c.1 with ⟨n1, n2⟩ | ⟨y, d, n1, n2, n3, n4⟩
        · rw [n2]
          rw [n1] at rv
          exact .miss rv.none_of
        · rw [n2]
          rw [n1] at rv
          obtain ⟨u, hu2, ru⟩ := rv.some_of
          obtain ⟨as, ra1⟩ := Dp.reads I c.2 p.2 v h2 r2
          obtain ⟨bs, rb1⟩ := Dp.reads I d y u n3 ru
          exact .hit hu2 (SeqAt.eqAt_reads c.2 d A s v u as bs ra1 rb1 (SeqAt.canLay_of_shaped h3) (SeqAt.canLay_of_shaped n4) (SeqAt.room_of_shaped h3 hu)) ih
def rEqTT (K : PySem.W.Frag) : R2 := fun x y H Q => ∃ a b ks ls C E, x = .ref a ∧ y = .ref b ∧ H a = some (.dT ks) ∧ H b = some (.dT ls) ∧ RowE K H ks C ∧ RowE K H ls E ∧ Q (.bl (sameE C E)) H
def rNeTT (K : PySem.W.Frag) : R2 := fun x y H Q => ∃ a b ks ls C E, x = .ref a ∧ y = .ref b ∧ H a = some (.dT ks) ∧ H b = some (.dT ls) ∧ RowE K H ks C ∧ RowE K H ls E ∧ Q (.bl (!sameE C E)) H
section
variable {X : Cx}
theorem op_eqTT0 (hu : X.A.units + 66 < cLine) : OpR X (compareOp .Eq) (rEqTT X.K) := by
  intro pins s σ H x y v u Q I rx ry h
  obtain ⟨a, b, ks, ls, C, E, rfl, rfl, ea, eb, h1, h2, q⟩ := h
  obtain rfl : v = Value.ref a := rx
  obtain rfl : u = Value.ref b := ry
  obtain ⟨_, ya, va, ra, da⟩ := dt_of I.hok ea
  obtain ⟨_, yb, vb, rb, db⟩ := dt_of I.hok eb
  have l1 : va.length = C.length := by rw [← Paired.length ra]; exact Paired.length h1
  have l2 : vb.length = E.length := by rw [← Paired.length rb]; exact Paired.length h2
  exact eqH_ok (knd := tupleKind (mixKind X.prog X.w)) (r := hitsE E C) ya yb (tupleKind_room_in1 (by omega)) da db (by omega) (fun _ => hits_tt I (A := X.A.in1) (by show X.A.units + 1 + 64 < cLine; omega) rb h2 ra h1) (fin_bl I q (by unfold sameE; rw [l1, l2]; congr 1))
theorem op_neTT0 (hu : X.A.units + 66 < cLine) : OpR X (compareOp .NotEq) (rNeTT X.K) := by
  intro pins s σ H x y v u Q I rx ry h
  obtain ⟨a, b, ks, ls, C, E, rfl, rfl, ea, eb, h1, h2, q⟩ := h
  obtain rfl : v = Value.ref a := rx
  obtain rfl : u = Value.ref b := ry
  obtain ⟨_, ya, va, ra, da⟩ := dt_of I.hok ea
  obtain ⟨_, yb, vb, rb, db⟩ := dt_of I.hok eb
  have l1 : va.length = C.length := by rw [← Paired.length ra]; exact Paired.length h1
  have l2 : vb.length = E.length := by rw [← Paired.length rb]; exact Paired.length h2
  exact neH_ok (knd := tupleKind (mixKind X.prog X.w)) (r := hitsE E C) ya yb (tupleKind_room_in1 (by omega)) da db (by omega) (fun _ => hits_tt I (A := X.A.in1) (by show X.A.units + 1 + 64 < cLine; omega) rb h2 ra h1) (fin_bl I q (by unfold sameE; rw [l1, l2]; congr 2))
end
theorem op_eqTTK {X : Cx} {K : PySem.W.Frag} {k : Nat} (hr : Room k X.A) (h : X.K = K := by rfl) : OpR X (compareOp .Eq) (rEqTT K) := h ▸ op_eqTT0 (by have := hr.un; omega)
theorem op_neTTK {X : Cx} {K : PySem.W.Frag} {k : Nat} (hr : Room k X.A) (h : X.K = K := by rfl) : OpR X (compareOp .NotEq) (rNeTT K) := h ▸ op_neTT0 (by have := hr.un; omega)
/-! ### d.pop(k), the key there -/
def rPop1T : V → List V → Hp → VK → Prop := fun x xs H Q => ∃ (a : Addr) (kvs : List (List Key × V)) (k : List Key) (b : Addr) (v : V), x = .ref a ∧ xs = [.ref b] ∧ H a = some (.dT kvs) ∧ H b = some (.tup (k.map kV)) ∧ valV kvs k = some v ∧ Q v (upd H a (.dT (dropK kvs k)))
theorem mt_pop1T {X : Cx} (hu : X.A.units + 1 < cLine) : MtR X "dict.pop" rPop1T := by
  intro pins s σ H x xs v us Q I rx rxs h
  obtain ⟨a, kvs, k, b, y, rfl, rfl, ha, hb, ev, q⟩ := h
  cases rx
  obtain ⟨u1, rfl, r1⟩ := vals1 rxs
  cases r1
  obtain ⟨z, hd, xs', rel, dd⟩ := dt_of I.hok ha
  have hz : xs'.length ≤ sizeLine := by rw [← Paired.length rel]; exact z
  have rv := rel.val k
  rw [ev] at rv
  obtain ⟨u, hu2, ru⟩ := rv.some_of
  obtain ⟨p, hp, rfl⟩ := Option.map_eq_some_iff.mp hu2
  refine call_pop_heap (knd := tupleKind (mixKind X.prog X.w)) (more := []) (k := k) (.inl rfl) (PySem.F.args_dict_pop_2 _ _) (tupleKind_room_in1 hu) (key_of I.hok hb) hd dd hp (fun h' dd' hs => ?_) hz
  obtain ⟨o, es, ep, hq, h2, h3, h4, _, h5⟩ := dd'
  have rel2 : KT H (dropK kvs k) (withoutH xs' k) := DX.KT_drop k rel
  have I2 : Inv X pins σ (upd H a (.dT (dropK kvs k))) { s with heap := h', toks := s.toks + (tupleKind (mixKind X.prog X.w)).draws k } :=
    d_write I (by rw [ha]; exact True.intro) hs ⟨o, hq⟩ ⟨Nat.le_trans (dropK_le kvs k) z, hd, _, rel2.keeps (fun c ys ec => (by rw [upd_ne (ne_of ec ha (fun z => nomatch z))]; exact ec)), o, es, ep, hq, h2, h3, h4, h5⟩
  show EP X pins σ Q p.2 _
  exact ⟨y, _, I2, ru, q⟩
/-! ### sorted(d) -/
section
variable {X : Cx}
def tKey (k : List Key) : PyData := .tuple (k.map dKey)
/-- sorted(a dict whose keys are tuples): the keys' own objects, in order -/
def rSortT : List V → Hp → VK → Prop := fun xs H Q => ∃ (a : Addr) (kvs : List (List Key × V)), xs = [.ref a] ∧ Rd H a (.dT kvs) ∧ PySem.W.AllAlike (kvs.map fun p => tKey p.1) ∧ PySem.W.Sortable (kvs.map fun p => tKey p.1) ∧ (∀ p ∈ kvs, (tKey p.1).depth ≤ 60) ∧
  ∀ (p : Addr) (Z : List (Addr × List Key)), H p = none → Z.map (·.2) = (kvs.map (·.1)).mergeSort (PySem.W.dataLe false tKey) → (∀ z ∈ Z, H z.1 = some (.tup (z.2.map kV))) → Q (.ref p) (upd H p (.lst (Z.map fun z => V.ref z.1)))
theorem dp_key {K : PySem.W.Frag} {H : Hp} : ∀ k : Key, Dp K H (kV k) (dKey k)
  | .inl i => .int i
  | .inr z => .str z
theorem dp_keys {K : PySem.W.Frag} {H : Hp} : ∀ k : List Key, DpAll K H (k.map kV) (k.map dKey)
  | [] => .nil
  | x :: r => .cons (dp_key x) (dp_keys r)
theorem dp_tkey {K : PySem.W.Frag} {H : Hp} {b : Addr} {k : List Key} (h : H b = some (.tup (k.map kV))) : Dp K H (.ref b) (tKey k) := .tup (SqT.of h) (dp_keys k)
theorem reads_keys {h : Heap} : ∀ (k : List Key) (us : List Value) (as : List Addr), ReadsAll h us (k.map dKey) as → as = []
  | [], _, _, r => by
    cases r
    rfl
  | x :: r, _, _, q => by
    rw [List.map_cons] at q
    cases q with
    | cons q1 q2 =>
      rw [reads_keys r _ _ q2, List.append_nil]
      cases x with
      | inl i => cases q1; rfl
      | inr z => cases q1; rfl
theorem reads_tkey {h : Heap} {k : List Key} {u : Value} {as : List Addr} (r : Reads h u (tKey k) as) : as = [] := by
  cases r with
  | tuple _ _ _ q => exact reads_keys k _ _ q
theorem cr_sortT (hcalm : X.calm = true) (hu : X.A.units + 64 < cLine) : CallR X (.builtin "sorted") rSortT := by
  intro pins s σ H xs us Q I r q
  obtain ⟨a, kvs, ex, hd, hal, hso, hdp, q⟩ := q
  subst ex
  obtain ⟨u, eu, rx⟩ := vals1 r
  subst eu
  cases rx
  obtain ⟨z, lo, ys, rel, dd⟩ := dt_rd I.hok hd
  obtain ⟨o, es, ep, ho, hx, hdt, he, his, hn⟩ := dd
  have raw : s.heap.DictRaw a es ep := ⟨o, ho, hx, hdt⟩
  have hz : es.size = ys.length := size_of_entries he
  have hl : ys.length = kvs.length := (Paired.length rel).symm
  refine Calls.call_function_entry PyProof.Rows.kind_sorted PyProof.Rows.plain_sorted PyProof.Rows.entry_sorted (PyProof.Rows.args_sorted1 _) ?_
  unfold Builtin.«sorted»
  refine wpAny_bind (m := checkCount "sorted" 1 1 _) (wpAny_pure ?_)
  refine wpAny_bind (PySem.W.kdu_collect (A := X.A.in1) (PySem.KdlSrc.rawDict (es := es) (ep := ep) lo) (I.ok.hd hcalm) raw (by rw [hz, hl]; exact z) fun h' tk acc hk hacc => ?_)
  have hkey : acc.toList = ys.map fun y => Value.ref y.2.1 := by
    refine List.ext_getElem? fun j => ?_
    by_cases lt : j < ys.length
    · have la : j < acc.toList.length := by rw [Array.length_toList, hacc.1, hz]; exact lt
      rw [List.getElem?_eq_getElem la]
      obtain ⟨hi, ev⟩ := hacc.2 j acc.toList[j] (by rw [← Array.getElem?_toList]; exact List.getElem?_eq_getElem la)
      have e1 := entry_at he j
      rw [Array.getElem?_eq_getElem hi, List.getElem?_eq_getElem lt, Option.map_some] at e1
      rw [ev, Option.some.inj e1, List.getElem?_map, List.getElem?_eq_getElem lt]
      rfl
    · rw [List.getElem?_eq_none (by rw [Array.length_toList, hacc.1, hz]; omega), List.getElem?_eq_none (by rw [List.length_map]; omega)]
  have I1 : Inv X pins σ H { s with heap := h', toks := tk } := I.kept hk
  have hsl : acc.toList.length ≤ sizeLine := by rw [hkey, List.length_map, hl]; exact z
  refine wpAny_bind (wpAny_newList ?_ hsl)
  have hoL : (h'.push (seqObj "list" acc.toList.toArray 0)).get? h'.objs.size = some (seqObj "list" acc.toList.toArray 0) := Heap.get?_push_size _ rfl
  show wpAny _ _ _ _ _ { s with heap := h'.push (seqObj "list" acc.toList.toArray 0), toks := tk }
  generalize eZ : (ys.map fun y => (y.2.1, y.1)) = Z0
  have eZ1 : acc.toList = Z0.map fun y => Value.ref y.1 := by rw [hkey, ← eZ, List.map_map]; rfl
  have eZ2 : Z0.map (·.2) = kvs.map (·.1) := by
    rw [← eZ, List.map_map]
    clear eZ eZ1 hkey hsl hoL he hz hl hn his hd hal hso hdp q z
    induction rel with
    | nil => rfl
    | cons hh _ ih =>
      rw [List.map_cons, List.map_cons, ih]
      exact congrArg (· :: _) hh.1.symm
  have hZ : ∀ y ∈ Z0, H y.1 = some (.tup (y.2.map kV)) := by
    intro y hy
    rw [← eZ] at hy
    obtain ⟨x, hx1, rfl⟩ := List.mem_map.mp hy
    obtain ⟨j, hj⟩ := List.mem_iff_getElem?.mp hx1
    obtain ⟨p, _, hp1, hp2, _⟩ := DX.pget rel hj
    show H x.2.1 = some (.tup (x.1.map kV))
    rw [← hp1]
    exact hp2
  have lZ : Z0.length = kvs.length := by have := congrArg List.length eZ2; rwa [List.length_map, List.length_map] at this
  have e : PySem.W.EachIs (fun v (y : Addr × List Key) => v = Value.ref y.1) acc.toList Z0 := by
    rw [eZ1]
    clear eZ eZ1 eZ2 hZ lZ
    induction Z0 with
    | nil => exact .nil
    | cons y r ih => exact .cons rfl ih
  have er : PySem.W.EachIs (fun v (y : Addr × List Key) => ∃ as, Reads (h'.push (seqObj "list" acc.toList.toArray 0)) v (tKey y.2) as ∧ h'.objs.size ∉ as) acc.toList Z0 := (PySem.W.each_mem e).mono fun v y h => by
    obtain ⟨as, r⟩ := Dp.reads I1 (tKey y.2) (.ref y.1) v (dp_tkey (hZ y h.2)) h.1
    refine ⟨[], ?_, by simp⟩
    have e0 := reads_tkey r
    rw [e0] at r
    exact PyProof.Rows.Reads.keeps (fun b o g => Heap.get?_push_of_some _ g) r
  have eK : (Z0.map fun y => tKey y.2) = kvs.map fun p => tKey p.1 := by
    rw [show (Z0.map fun y => tKey y.2) = (Z0.map (·.2)).map tKey by rw [List.map_map]; rfl, eZ2, List.map_map]; rfl
  refine wpAny_bind (wpAny_holding (PySem.W.list_sort_data (enc := fun y : Addr × List Key => tKey y.2) (s := { s with heap := h'.push (seqObj "list" acc.toList.toArray 0), toks := tk }) hoL e er (by rw [eK]; exact hal) (by rw [eK]; exact hso) (by rw [lZ]; exact z) (fun y hy => ?_) (fun out2 ho2 eo => ?_)))
  · obtain ⟨p, hp, ep2⟩ := List.mem_map.mp (show tKey y.2 ∈ kvs.map fun p => tKey p.1 by rw [← eK]; exact List.mem_map.mpr ⟨y, hy, rfl⟩)
    have d1 := hdp p hp
    have e2 : X.A.in1.units = X.A.units + 1 := rfl
    show X.A.in1.units + 1 + (tKey y.2).depth < cLine
    rw [← ep2]
    omega
  · obtain ⟨c, hcc⟩ := sortedHeap_at (vs := acc.toList) (out := out2.toArray) hoL
    generalize eS : (Z0.mergeSort (PySem.W.dataLe false fun y : Addr × List Key => tKey y.2)) = S at eo
    have pm : S.Perm Z0 := by rw [← eS]; exact List.mergeSort_perm ..
    have vo : Vals (S.map fun y => V.ref y.1) out2 := by
      clear eS hcc ho2 pm
      induction eo with
      | nil => exact .nil
      | cons h1 _ ih => exact .cons h1 ih
    have eS2 : S.map (·.2) = (kvs.map (·.1)).mergeSort (PySem.W.dataLe false tKey) := by
      rw [← eS, ← eZ2]
      exact List.map_mergeSort (fun a _ b _ => rfl)
    refine wpAny_pure ⟨_, rfl, .ref h'.objs.size, upd H h'.objs.size (.lst (S.map fun y => V.ref y.1)), I1.laid (t' := tk) (fun b u e => ?_) (Nat.le_refl _)
      (show ObjOk X.prog X.w _ _ _ (.lst (S.map fun y => V.ref y.1)) from ⟨by rw [List.length_map, pm.length_eq, lZ]; exact z, out2, c, vo, hcc⟩), rfl, q _ S (I1.hok.fresh (Nat.le_refl _)) eS2 (fun y hy => hZ y (pm.mem_iff.mp hy))⟩
    have hb : b < h'.objs.size := Heap.lt_size e
    rw [PyProof.Rows.sortedHeap_old (Nat.ne_of_lt hb) (by rw [size_push']; exact Nat.lt_succ_of_lt hb)]
    exact Heap.get?_push_of_some _ e
end
end SH
set_option Elab.async false
set_option linter.all false
set_option maxRecDepth 100000
set_option maxHeartbeats 4000000
/-! repr of whatever is made of lists, tuples and dicts -/
namespace SH
open PySem PySem.Spec PyProof.Rows L2
structure TdOk (d : PyData) (n w : Nat) : Prop where
  lv : d.leavesShort 13 = true
  dp : d.depth ≤ n
  wt : d.weight ≤ w
  sh : d.showable = true
theorem TdOk.mono {d : PyData} {n w n' w' : Nat} (h : TdOk d n w) (h1 : n ≤ n') (h2 : w ≤ w') : TdOk d n' w' := ⟨h.lv, Nat.le_trans h.dp h1, Nat.le_trans h.wt h2, h.sh⟩
/-- what repr asks of a value that reads as d -/
abbrev RunOk (X : Cx) (s : Shared) (u : Value) (d : PyData) : Prop := (∃ as, Reads s.heap u d as) ∧ ∃ bs, ReadAtMost s.heap d.depth bs ∧ ReprK X.prog X.w bs s.heap d.depth u d.shown
structure Told (K : PySem.W.Frag) (H : Hp) (v : V) (d : PyData) (n w : Nat) : Prop where
  ok : TdOk d n w
  run : ∀ {X : Cx} {pins : List (Addr × Obj)} {σ : L2.St} {s : Shared}, X.K = K → Inv X pins σ H s → ∀ u, RelV v u → d.shown.length ≤ sizeLine → RunOk X s u d
theorem Told.mono {K : PySem.W.Frag} {H : Hp} {v : V} {d : PyData} {n w n' w' : Nat} (h : Told K H v d n w) (h1 : n ≤ n') (h2 : w ≤ w') : Told K H v d n' w' := ⟨h.ok.mono h1 h2, h.run⟩
theorem told_flat {K : PySem.W.Frag} {H : Hp} {v : V} {d : PyData} {n w : Nat} (h1 : Dp K H v d) (h2 : Shw d n w) : Told K H v d n w := by
  refine ⟨⟨h2.leaves, h2.deep, h2.wt, h2.shows⟩, fun eK I u r hz => ?_⟩
  subst eK
  obtain ⟨as, rd⟩ := Dp.reads I d v u h1 r
  exact ⟨⟨_, rd⟩, ReprK.of_reads rd h2.shows (PyData.noDict_hsm h2.nd) hz⟩
abbrev TAll (K : PySem.W.Frag) (H : Hp) (vs : List V) (ds : List PyData) (n w : Nat) : Prop := Paired (fun v d => Told K H v d n w) vs ds
theorem TAll.ok {K : PySem.W.Frag} {H : Hp} {vs : List V} {ds : List PyData} {n w : Nat} (h : TAll K H vs ds n w) : PyData.leavesShortAll 13 ds = true ∧ PyData.depthAll ds ≤ n ∧ PyData.weightAll ds ≤ ds.length * (w + 1) ∧ PyData.showableAll ds = true := by
  unfold TAll at h
  induction h with
  | nil => exact ⟨rfl, Nat.zero_le _, Nat.zero_le _, rfl⟩
  | cons h1 _ ih =>
    obtain ⟨a1, a2, a3, a4⟩ := ih
    have b2 := h1.ok.dp
    have b3 := h1.ok.wt
    refine ⟨?_, ?_, ?_, ?_⟩
    · rw [PyData.leavesShortAll, h1.ok.lv, a1]; rfl
    · rw [PyData.depthAll]; omega
    · rw [PyData.weightAll, List.length_cons, Nat.succ_mul]; omega
    · rw [PyData.showableAll, h1.ok.sh, a4]; rfl
theorem TAll.run {X : Cx} {pins : List (Addr × Obj)} {σ : L2.St} {H : Hp} {s : Shared} (I : Inv X pins σ H s) {vs : List V} {ds : List PyData} {n w : Nat} (h : TAll X.K H vs ds n w) : ∀ {us : List Value}, Vals vs us → (∀ t ∈ PyData.shownAll ds, t.length ≤ sizeLine) →
    (∃ as, ReadsAll s.heap us ds as) ∧ ∃ bs, ReadAtMost s.heap (PyData.depthAll ds) bs ∧ ReprAllK X.prog X.w bs s.heap (PyData.depthAll ds) us (PyData.shownAll ds) := by
  unfold TAll at h
  induction h with
  | nil =>
    intro us r hz
    cases r
    exact ⟨⟨_, .nil⟩, [], (fun _ h => nomatch h), by simp only [PyData.shownAll]; exact .nil⟩
  | @cons v d vs ds h1 h2 ih =>
    intro us r hz
    cases r with
    | @cons _ u _ us r1 r2 =>
      obtain ⟨⟨as, q1⟩, b1, hb1, k1⟩ := h1.run rfl I u r1 (hz _ (by simp only [PyData.shownAll]; exact List.mem_cons_self ..))
      obtain ⟨⟨bs, q2⟩, b2, hb2, k2⟩ := ih r2 (fun t ht => hz t (by simp only [PyData.shownAll]; exact List.mem_cons_of_mem _ ht))
      refine ⟨⟨_, .cons q1 q2⟩, b1 ++ b2, ?_, ?_⟩
      · intro b hm
        simp only [PyData.depthAll]
        rcases List.mem_append.mp hm with hm | hm
        · obtain ⟨d', as', r', hd'⟩ := hb1 b hm
          exact ⟨d', as', r', Nat.le_trans hd' (Nat.le_max_left _ _)⟩
        · obtain ⟨d', as', r', hd'⟩ := hb2 b hm
          exact ⟨d', as', r', Nat.le_trans hd' (Nat.le_max_right _ _)⟩
      · simp only [PyData.depthAll, PyData.shownAll]
        exact .cons ((k1.more fun b hb => List.mem_append_left _ hb).level_le (Nat.le_max_left _ _)) (k2.more_le (fun b hb => List.mem_append_right _ hb) (Nat.le_max_right _ _))
theorem told_tup {K : PySem.W.Frag} {H : Hp} {a : Addr} {vs : List V} {ds : List PyData} {n w : Nat} (hT : SqT K H a vs) (h : TAll K H vs ds n w) : Told K H (.ref a) (.tuple ds) (n + 1) (ds.length * (w + 1)) := by
  obtain ⟨o1, o2, o3, o4⟩ := h.ok
  refine ⟨⟨by rw [PyData.leavesShort]; exact o1, by rw [PyData.depth]; omega, by rw [PyData.weight]; exact o3, by rw [PyData.showable]; exact o4⟩, fun eK I u r hz => ?_⟩
  subst eK
  obtain rfl : u = Value.ref a := r
  obtain ⟨its, rv, ⟨o, h1, h2, m, h3⟩, _⟩ := I.tuple hT
  have hz' : (tupleText (PyData.shownAll ds)).length ≤ sizeLine := by simpa only [PyData.shown] using hz
  obtain ⟨⟨as, h4⟩, bs, hb, hk⟩ := h.run I rv (fun t ht => Nat.le_trans (tupleText_mem_le ht) hz')
  have rd : Reads _ (.ref a) (.tuple ds) _ := .tuple h1 h2 h3 h4
  have hna : a ∉ bs := not_mem_of_deeper rd (by simp only [PyData.depth]; omega) hb
  refine ⟨⟨_, rd⟩, a :: bs, ReadAtMost.cons rd (by simp only [PyData.depth]; omega) hb, ?_⟩
  simp only [PyData.depth, PyData.shown]
  exact ReprK.tuple h1 h2 h3 hna hk
theorem told_list {K : PySem.W.Frag} {H : Hp} {a : Addr} {vs : List V} {ds : List PyData} {n w : Nat} (hT : SqL K H a vs) (h : TAll K H vs ds n w) : Told K H (.ref a) (.list ds) (n + 1) (ds.length * (w + 1)) := by
  obtain ⟨o1, o2, o3, o4⟩ := h.ok
  refine ⟨⟨by rw [PyData.leavesShort]; exact o1, by rw [PyData.depth]; omega, by rw [PyData.weight]; exact o3, by rw [PyData.showable]; exact o4⟩, fun eK I u r hz => ?_⟩
  subst eK
  obtain rfl : u = Value.ref a := r
  obtain ⟨its, rv, hp, _⟩ := I.list hT
  obtain ⟨o, h1, h2, m, h3⟩ := hp.isList
  have hz' : (listText (PyData.shownAll ds)).length ≤ sizeLine := by simpa only [PyData.shown] using hz
  obtain ⟨⟨as, h4⟩, bs, hb, hk⟩ := h.run I rv (fun t ht => Nat.le_trans (listText_mem_le ht) hz')
  have rd : Reads _ (.ref a) (.list ds) _ := .list h1 h2 h3 h4
  have hna : a ∉ bs := not_mem_of_deeper rd (by simp only [PyData.depth]; omega) hb
  refine ⟨⟨_, rd⟩, a :: bs, ReadAtMost.cons rd (by simp only [PyData.depth]; omega) hb, ?_⟩
  simp only [PyData.depth, PyData.shown]
  cases its with
  | nil =>
    cases h4
    simp only [PyData.shownAll, listText_nil]
    exact ReprK.listEmpty h1 h2 h3
  | cons x l => exact ReprK.list h1 h2 h3 hna (by simpa using hk.length_eq) (fun i y e => hk.item i y (by simpa using e))
/-! ### dicts -/
abbrev KD := List (PyData × PyData)
theorem kd_ok {nk wk n w : Nat} : ∀ {C : KD}, (∀ c ∈ C, TdOk c.1 nk wk ∧ TdOk c.2 n w) → PyData.leavesShortKv 13 C = true ∧ PyData.depthKv C ≤ max nk n ∧ PyData.weightKv C ≤ C.length * (w + wk + 2) ∧ PyData.showableKv C = true
  | [], _ => ⟨rfl, Nat.zero_le _, Nat.zero_le _, rfl⟩
  | c :: r, h => by
    obtain ⟨h1, h2⟩ := h c (List.mem_cons_self ..)
    obtain ⟨a1, a2, a3, a4⟩ := kd_ok fun x m => h x (List.mem_cons_of_mem _ m)
    have k2 := h1.dp
    have k3 := h1.wt
    have b2 := h2.dp
    have b3 := h2.wt
    refine ⟨?_, ?_, ?_, ?_⟩
    · rw [PyData.leavesShortKv, h1.lv, h2.lv, a1]; rfl
    · rw [PyData.depthKv]; omega
    · rw [PyData.weightKv, List.length_cons, Nat.succ_mul]; omega
    · rw [PyData.showableKv, h1.sh, h2.sh, a4]; rfl
theorem run_dict {X : Cx} {s : Shared} {a : Addr} {o : Obj} {es : Array DictEntry} {ep : Nat} {C : KD} (ho : s.heap.get? a = some o) (hc : o.cls = .type "dict") (hd : o.data = .dict es ep) (hsys : (a == sysModules) = false) (hz : (PyData.dict C).shown.length ≤ sizeLine)
    (hk : (∀ t ∈ PyData.shownAll (C.map (·.1)), t.length ≤ sizeLine) → (∃ as, ReadsAll s.heap (es.toList.map (·.key)) (C.map (·.1)) as) ∧ ∃ bs, ReadAtMost s.heap (PyData.depthAll (C.map (·.1))) bs ∧ ReprAllK X.prog X.w bs s.heap (PyData.depthAll (C.map (·.1))) (es.toList.map (·.key)) (PyData.shownAll (C.map (·.1))))
    (hv : (∀ t ∈ PyData.shownAll (C.map (·.2)), t.length ≤ sizeLine) → (∃ as, ReadsAll s.heap (es.toList.map (·.val)) (C.map (·.2)) as) ∧ ∃ bs, ReadAtMost s.heap (PyData.depthAll (C.map (·.2))) bs ∧ ReprAllK X.prog X.w bs s.heap (PyData.depthAll (C.map (·.2))) (es.toList.map (·.val)) (PyData.shownAll (C.map (·.2)))) :
    RunOk X s (.ref a) (.dict C) := by
  have hz' : (dictText (PyData.shownKv C)).length ≤ sizeLine := by simpa only [PyData.shown] using hz
  obtain ⟨⟨as₁, r4⟩, b1, hb1, k1⟩ := hk fun t ht => let ⟨p, hp, hl⟩ := PyData.shownKv_key_le C t ht; Nat.le_trans hl (Nat.le_trans (dictText_mem_le hp) hz')
  obtain ⟨⟨bs₁, r5⟩, b2, hb2, k2⟩ := hv fun t ht => let ⟨p, hp, hl⟩ := PyData.shownKv_val_le C t ht; Nat.le_trans hl (Nat.le_trans (dictText_mem_le hp) hz')
  have rd : Reads s.heap (.ref a) (.dict C) _ := .dict ho hc hd r4 r5
  have hb : ReadAtMost s.heap (PyData.depthKv C) (b1 ++ b2) := (hb1.mono (PyData.depthAll_keys_le C)).append (hb2.mono (PyData.depthAll_vals_le C))
  have hna : a ∉ b1 ++ b2 := not_mem_of_deeper rd (by simp only [PyData.depth]; omega) hb
  refine ⟨⟨_, rd⟩, a :: (b1 ++ b2), ReadAtMost.cons rd (by simp only [PyData.depth]; omega) hb, ?_⟩
  simp only [PyData.depth, PyData.shown, PyData.shownKv_eq]
  exact ReprK.dict ho hc hd hsys hna (ReprEntriesK.of_two es.toList _ _
    (k1.more_le (fun b hb => List.mem_append_left _ hb) (PyData.depthAll_keys_le C)) (k2.more_le (fun b hb => List.mem_append_right _ hb) (PyData.depthAll_vals_le C)))
theorem key_told {K : PySem.W.Frag} {H : Hp} {k : Key} (h : KOk k) : Told K H (kV k) (dKey k) 0 60 := told_flat (dp_key k) (key_shw h)
theorem told_dK {K : PySem.W.Frag} {H : Hp} {a : Addr} {kvs : List (Key × V)} {C : CD} {n w : Nat} (hd : H a = some (.dK kvs)) (h : Paired (fun p c => p.1 = c.1 ∧ Told K H p.2 c.2 n w) kvs C) (hk : ∀ c ∈ C, KOk c.1) :
    Told K H (.ref a) (.dict (C.map fun c => (dKey c.1, c.2))) (n + 1) (C.length * (w + 62)) := by
  have e1 : (C.map fun c => (dKey c.1, c.2)).map (·.1) = C.map fun c => dKey c.1 := by rw [List.map_map]; rfl
  have e2 : (C.map fun c => (dKey c.1, c.2)).map (·.2) = C.map fun c => c.2 := by rw [List.map_map]; rfl
  have tv : TAll K H (kvs.map (·.2)) (C.map fun c => c.2) n w := by
    clear hd hk e1 e2
    induction h with
    | nil => exact .nil
    | cons hh _ ih => exact .cons hh.2 ih
  have tk : TAll K H (kvs.map fun p => kV p.1) (C.map fun c => dKey c.1) 0 60 := by
    clear hd e1 e2 tv
    induction h with
    | nil => exact .nil
    | @cons p c ps cs hh _ ih => exact .cons (show Told K H (kV p.1) (dKey c.1) 0 60 by rw [hh.1]; exact key_told (hk _ (List.mem_cons_self ..))) (ih fun c m => hk c (List.mem_cons_of_mem _ m))
  have kd : ∀ c ∈ C.map fun c => (dKey c.1, c.2), TdOk c.1 0 60 ∧ TdOk c.2 n w := by
    clear hd e1 e2 tv tk
    induction h with
    | nil => intro c m; cases m
    | @cons p c ps cs hh _ ih =>
      intro x m
      rw [List.map_cons] at m
      rcases List.mem_cons.mp m with rfl | m
      · exact ⟨(key_told (K := K) (H := H) (hk _ (List.mem_cons_self ..))).ok, hh.2.ok⟩
      · exact ih (fun c m => hk c (List.mem_cons_of_mem _ m)) x m
  obtain ⟨o1, o2, o3, o4⟩ := kd_ok kd
  rw [List.length_map] at o3
  refine ⟨⟨by rw [PyData.leavesShort]; exact o1, by rw [PyData.depth]; omega, by rw [PyData.weight]; exact o3, by rw [PyData.showable]; exact o4⟩, fun {X pins σ s} eK I u r hz => ?_⟩
  subst eK
  obtain rfl : u = Value.ref a := r
  obtain ⟨z0, hsys, vs, rv, da⟩ := (show ObjOk X.prog X.w H s.heap a (.dK kvs) from I.hok a _ hd)
  obtain ⟨o, es, ep, ho, hx, hdt, z1, hp, z2⟩ := da
  have vk : Vals (kvs.map fun p => kV p.1) (es.toList.map (·.key)) ∧ Vals (kvs.map (·.2)) (es.toList.map (·.val)) := by
    clear hdt hd h tv tk kd o1 o2 o3 o4 hz e1 e2 z0 z1 z2
    generalize es.toList = el at hp
    induction rv generalizing el with
    | nil => cases hp; exact ⟨.nil, .nil⟩
    | @cons p q ps qs rr rt ih =>
      cases hp with
      | @cons e _ es _ h1 h2 h3 =>
        obtain ⟨i1, i2⟩ := ih es h3
        refine ⟨.cons ?_ i1, .cons (by show RelV p.2 e.val; rw [h2]; exact rr.2) i2⟩
        show RelV (kV p.1) e.key
        rw [rr.1]
        rcases keyIs_shape (show keyIs q.1 e.key = true from h1) with ⟨i, t, e1, e2⟩ | ⟨z, t, e1, e2⟩
        · rw [e1, e2]; exact ⟨t, rfl⟩
        · rw [e1, e2]; exact ⟨t, rfl⟩
  exact run_dict ho hx.1 hdt hsys hz (fun hs => by rw [e1] at hs ⊢; exact tk.run I vk.1 hs) (fun hs => by rw [e2] at hs ⊢; exact tv.run I vk.2 hs)
theorem told_dT {K : PySem.W.Frag} {H : Hp} {a : Addr} {kvs : List (List Key × V)} {C : CT} {n w m : Nat} (hd : H a = some (.dT kvs)) (h : Paired (fun p c => p.1 = c.1 ∧ Told K H p.2 c.2 n w) kvs C) (hk : ∀ c ∈ C, c.1.length ≤ m ∧ ∀ k ∈ c.1, KOk k) :
    Told K H (.ref a) (.dict (C.map fun c => (tKey c.1, c.2))) (n + 2) (C.length * (w + m * 61 + 2)) := by
  have e1 : (C.map fun c => (tKey c.1, c.2)).map (·.1) = C.map fun c => tKey c.1 := by rw [List.map_map]; rfl
  have e2 : (C.map fun c => (tKey c.1, c.2)).map (·.2) = C.map fun c => c.2 := by rw [List.map_map]; rfl
  have tk1 : ∀ (k : List Key), (∀ x ∈ k, KOk x) → TAll K H (k.map kV) (k.map dKey) 0 60 := fun k hk => by
    induction k with
    | nil => exact .nil
    | cons x r ih => exact .cons (key_told (hk x (List.mem_cons_self ..))) (ih fun y m => hk y (List.mem_cons_of_mem _ m))
  have tt : ∀ (H : Hp) (b : Addr) (k : List Key), H b = some (.tup (k.map kV)) → TAll K H (k.map kV) (k.map dKey) 0 60 → k.length ≤ m → Told K H (.ref b) (tKey k) 1 (m * 61) := fun H b k hb ht hl => (told_tup (SqT.of hb) ht).mono (Nat.le_refl _) (by rw [List.length_map]; exact Nat.mul_le_mul_right _ hl)
  have okk : ∀ k : List Key, k.length ≤ m → (∀ x ∈ k, KOk x) → TdOk (tKey k) 1 (m * 61) := fun k hl hk => (tt (fun _ => some (.tup (k.map kV))) 0 k rfl (by
    clear tk1 tt hl
    induction k with
    | nil => exact .nil
    | cons x r ih =>
      refine .cons (key_told (hk x (List.mem_cons_self ..))) ?_
      have : ∀ (l : List Key), (∀ x ∈ l, KOk x) → TAll K (fun _ => some (.tup ((x :: r).map kV))) (l.map kV) (l.map dKey) 0 60 := fun l hl => by
        induction l with
        | nil => exact .nil
        | cons y t ih2 => exact .cons (key_told (hl y (List.mem_cons_self ..))) (ih2 fun z m => hl z (List.mem_cons_of_mem _ m))
      exact this r fun y m => hk y (List.mem_cons_of_mem _ m)) hl).ok
  have tv : TAll K H (kvs.map (·.2)) (C.map fun c => c.2) n w := by
    clear hd hk e1 e2 tk1 tt okk
    induction h with
    | nil => exact .nil
    | cons hh _ ih => exact .cons hh.2 ih
  have kd : ∀ c ∈ C.map fun c => (tKey c.1, c.2), TdOk c.1 1 (m * 61) ∧ TdOk c.2 n w := by
    clear hd e1 e2 tv tk1 tt
    induction h with
    | nil => intro c m; cases m
    | @cons p c ps cs hh _ ih =>
      intro x m
      rw [List.map_cons] at m
      rcases List.mem_cons.mp m with rfl | m
      · exact ⟨okk _ (hk c (List.mem_cons_self ..)).1 (hk c (List.mem_cons_self ..)).2, hh.2.ok⟩
      · exact ih (fun c m => hk c (List.mem_cons_of_mem _ m)) x m
  obtain ⟨o1, o2, o3, o4⟩ := kd_ok kd
  rw [List.length_map] at o3
  refine ⟨⟨by rw [PyData.leavesShort]; exact o1, by rw [PyData.depth]; omega, by rw [PyData.weight]; exact o3, by rw [PyData.showable]; exact o4⟩, fun {X pins σ s} eK I u r hz => ?_⟩
  subst eK
  obtain rfl : u = Value.ref a := r
  obtain ⟨_, hsys, xs, rv, da⟩ := dt_of I.hok hd
  obtain ⟨o, es, ep, ho, hx, hdt, he, _, _⟩ := da
  have vk : ∃ ks : List V, Vals ks (es.toList.map (·.key)) ∧ TAll X.K H ks (C.map fun c => tKey c.1) 1 (m * 61) ∧ Vals (kvs.map (·.2)) (es.toList.map (·.val)) := by
    rw [he, List.map_map, List.map_map]
    have go : ∀ (C : CT) (kvs : List (List Key × V)) (xs : List (List Key × Addr × Value)), KT H kvs xs → Paired (fun p c => p.1 = c.1 ∧ Told X.K H p.2 c.2 n w) kvs C → (∀ c ∈ C, c.1.length ≤ m ∧ ∀ k ∈ c.1, KOk k) →
        ∃ ks : List V, Vals ks (xs.map ((·.key) ∘ entryOfKey (tupleKind (mixKind X.prog X.w)))) ∧ TAll X.K H ks (C.map fun c => tKey c.1) 1 (m * 61) ∧ Vals (kvs.map (·.2)) (xs.map ((·.val) ∘ entryOfKey (tupleKind (mixKind X.prog X.w)))) := ?_
    · exact go C kvs xs rv h hk
    clear hdt hd tv kd o1 o2 o3 o4 hz e1 e2 he ho hx rv h hk
    intro C kvs xs rv
    induction rv generalizing C with
    | nil => intro h hk; cases h; exact ⟨[], .nil, .nil, .nil⟩
    | @cons p q ps qs rr rt ih =>
      intro h hk
      cases h with
      | @cons _ c _ cs hh ht =>
        obtain ⟨ks, i1, i2, i3⟩ := ih cs ht fun c m => hk c (List.mem_cons_of_mem _ m)
        obtain ⟨r1, r2, r3⟩ := rr
        obtain ⟨z1, z2⟩ := hk c (List.mem_cons_self ..)
        rw [← hh.1] at z1 z2
        refine ⟨.ref q.2.1 :: ks, .cons rfl i1, .cons ?_ i2, .cons r3 i3⟩
        show Told X.K H (.ref q.2.1) (tKey c.1) 1 (m * 61)
        rw [← hh.1]
        exact tt H _ _ r2 (tk1 _ z2) z1
  obtain ⟨ks, v1, tk, v2⟩ := vk
  exact run_dict ho hx.1 hdt hsys hz (fun hs => by rw [e1] at hs ⊢; exact tk.run I v1 hs) (fun hs => by rw [e2] at hs ⊢; exact tv.run I v2 hs)
/-! ### the call -/
def rReprT (K : PySem.W.Frag) : List V → Hp → VK → Prop := fun vs H Q => ∃ (a : Addr) (xs : List V) (ds : List PyData) (n w : Nat), vs = [.ref a] ∧ SqT K H a xs ∧ TAll K H xs ds n w ∧ n ≤ 50 ∧ ds.length * (w + 1) ≤ 1048576 ∧ Q (.str (PyData.shown (.tuple ds))) H
theorem call_reprTK {X : Cx} {K : PySem.W.Frag} (hg : X.A.guards = some []) (hu : X.A.units + 64 < cLine) (h : X.K = K := by rfl) : CallR X (.builtin "repr") (rReprT K) := by
  subst h
  intro pins s σ H vs us Q I r q
  obtain ⟨a, xs, ds, n, w, rfl, hT, hD, hn, hw, q⟩ := q
  rw [Vals.ref1 r]
  obtain ⟨its, rv, ⟨o, h1, h2, m, h3⟩, _⟩ := I.tuple hT
  obtain ⟨b1, b2, b3, b4⟩ := hD.ok
  have hz : (PyData.shown (.tuple ds)).length ≤ sizeLine := PyData.shown_fits (B := 13) (by decide) (by decide) (by rw [PyData.leavesShort]; exact b1) (by rw [PyData.weight]; exact Nat.le_trans (Nat.le_trans b3 hw) (by decide))
  have hz' : (tupleText (PyData.shownAll ds)).length ≤ sizeLine := by simpa only [PyData.shown] using hz
  obtain ⟨⟨as, h4⟩, bs, hb, hk⟩ := hD.run I rv (fun t ht => Nat.le_trans (tupleText_mem_le ht) hz')
  have hna : a ∉ bs := not_mem_of_deeper (.tuple h1 h2 h3 h4) (by simp only [PyData.depth]; omega) hb
  refine call_repr_slot (A := X.A) (v := Value.ref a) (T := "tuple") (idr := "tuple.__repr__") (s := s) (by omega) (show Shared.TypeIs s (.ref a) "tuple" from ⟨o, h1, h2⟩) PySem.F.slot_tuple_repr ?_
  refine call_tuple_reprK h1 h2 h3 hna hk hg (fun b _ => Clear.nil b) (by show X.A.units + 1 + (PyData.depthAll ds + 1) < cLine; omega) (fun _ _ e => e) (fun h' u tk keep => ?_) hz'
  refine ⟨_, _, rfl, .str (PyData.shown (.tuple ds)), H, I.kept keep, ⟨u, ?_⟩, q⟩
  simp only [PyData.shown]
end SH
set_option Elab.async false
set_option linter.all false
set_option maxRecDepth 100000
set_option maxHeartbeats 4000000
/-! pairs of numbers as keys, as values and in lists -/
namespace SH
open PySem PySem.Spec PyProof.Rows L2
theorem op_inDK {X : Cx} {K : PySem.W.Frag} (hu : X.A.units + 65 < cLine) (h : X.K = K := by rfl) : OpR X (compareOp .In) (rInD K) := h ▸ op_inD hu
theorem op_notInDK {X : Cx} {K : PySem.W.Frag} (hu : X.A.units + 65 < cLine) (h : X.K = K := by rfl) : OpR X (compareOp .NotIn) (rNotInD K) := h ▸ op_notInD hu
theorem mt_indexDK {X : Cx} {K : PySem.W.Frag} (hu : X.A.units + 65 < cLine) (h : X.K = K := by rfl) : MtR X "list.index" (rIndexD K) := h ▸ mt_indexD hu
theorem op_inRK {X : Cx} {K : PySem.W.Frag} {k : Nat} (hr : Room k X.A) (h : X.K = K := by rfl) : OpR X (compareOp .In) (rInD K) := op_inDK (by have := hr.un; omega) h
theorem op_notInRK {X : Cx} {K : PySem.W.Frag} {k : Nat} (hr : Room k X.A) (h : X.K = K := by rfl) : OpR X (compareOp .NotIn) (rNotInD K) := op_notInDK (by have := hr.un; omega) h
theorem mt_indexRK {X : Cx} {K : PySem.W.Frag} {k : Nat} (hr : Room k X.A) (h : X.K = K := by rfl) : MtR X "list.index" (rIndexD K) := mt_indexDK (by have := hr.un; omega) h
theorem eqv_p2 (p q : Int × Int) : PyData.eqv (dP2 p) (dP2 q) = decide (p = q) := by
  unfold dP2
  obtain ⟨a, b⟩ := p
  obtain ⟨c, d⟩ := q
  simp only [PyData.eqv, PyData.eqvAll, eqv_int]
  by_cases h1 : a = c
  · by_cases h2 : b = d
    · simp [h1, h2]
    · simp [h1, h2]
  · simp [h1]
theorem any_p2 (l : List (Int × Int)) (p : Int × Int) : ((l.map dP2).any fun z => PyData.eqv z (dP2 p)) = decide (p ∈ l) := by
  induction l with
  | nil => rfl
  | cons x r ih =>
    rw [List.map_cons, List.any_cons, ih, eqv_p2]
    by_cases h : x = p
    · simp [h]
    · have : ¬ p = x := fun e => h e.symm
      simp [h, this]
theorem p2_shaped (p : Int × Int) : SeqAt.shaped (dP2 p) = true := shaped_of rfl (by show max 0 (max 0 0) + 1 ≤ 64; decide)
theorem p2_refl (p : Int × Int) : PyData.eqv (dP2 p) (dP2 p) = true := by rw [eqv_p2]; exact decide_eq_true rfl
theorem p2_shw {p : Int × Int} (h1 : p.1.natAbs < 10 ^ 12) (h2 : p.2.natAbs < 10 ^ 12) : Shw (dP2 p) 1 84 := shw_tup (w := 41) (n := 0) fun d hd => by
  simp only [List.mem_cons, List.not_mem_nil, or_false] at hd
  rcases hd with e | e <;> subst e
  · exact shw_int h1
  · exact shw_int h2
/-- a pair at a value -/
def PrAt (K : PySem.W.Frag) (H : Hp) (v : V) (p : Int × Int) : Prop := ∃ t, v = .ref t ∧ SqT K H t [.int p.1, .int p.2]
theorem PrAt.same {K : PySem.W.Frag} {H H' : Hp} {v : V} {p : Int × Int} (e : Same H H') (h : PrAt K H v p) : PrAt K H' v p := by
  obtain ⟨t, rfl, ht⟩ := h
  exact ⟨t, rfl, same_tup e ht⟩
theorem PrAt.dp {K : PySem.W.Frag} {H : Hp} {v : V} {p : Int × Int} (h : PrAt K H v p) : Dp K H v (dP2 p) := by
  obtain ⟨t, rfl, ht⟩ := h
  exact .tup ht (.cons (.int _) (.cons (.int _) .nil))
/-- a key of two numbers -/
def k2 (p : Int × Int) : List Key := [.inl p.1, .inl p.2]
theorem k2_inj {p q : Int × Int} (h : k2 p = k2 q) : p = q := by
  obtain ⟨a, b⟩ := p
  obtain ⟨c, d⟩ := q
  unfold k2 at h
  injection h with h1 h2
  injection h2 with h3 _
  have e1 : a = c := Sum.inl.inj h1
  have e2 : b = d := Sum.inl.inj h3
  rw [e1, e2]
/-! ### dicts of pairs by pairs -/
abbrev MP := List ((Int × Int) × (Int × Int))
def OthAt (K : PySem.W.Frag) (H : Hp) : List (List Key × V) → MP → Prop := Paired fun p c => p.1 = k2 c.1 ∧ PrAt K H p.2 c.2
def lkM (M : MP) (k : Int × Int) : Option (Int × Int) := (M.find? fun c => decide (c.1 = k)).map (·.2)
theorem OthAt.same {K : PySem.W.Frag} {H H' : Hp} (e : Same H H') {kvs : List (List Key × V)} {M : MP} (h : OthAt K H kvs M) : OthAt K H' kvs M := by
  unfold OthAt at h ⊢
  induction h with
  | nil => exact .nil
  | cons hh _ ih => exact .cons ⟨hh.1, hh.2.same e⟩ ih
theorem OthAt.look {K : PySem.W.Frag} {H : Hp} {kvs : List (List Key × V)} {M : MP} (h : OthAt K H kvs M) (k : Int × Int) : (valV kvs (k2 k) = none ∧ lkM M k = none) ∨ ∃ v p, valV kvs (k2 k) = some v ∧ lkM M k = some p ∧ PrAt K H v p := by
  unfold OthAt at h
  induction h with
  | nil => exact .inl ⟨rfl, rfl⟩
  | @cons p c ps cs hh t ih =>
    obtain ⟨h1, h2⟩ := hh
    unfold lkM
    by_cases e : c.1 = k
    · refine .inr ⟨p.2, c.2, valV_pos (by rw [h1, e]), ?_, h2⟩
      rw [List.find?_cons_of_pos (by simp [e])]
      rfl
    · rw [valV_neg (by rw [h1]; exact fun z => e (k2_inj z)), List.find?_cons_of_neg (by simp [e])]
      exact ih
theorem OthAt.row {K : PySem.W.Frag} {H : Hp} {kvs : List (List Key × V)} {M : MP} (h : OthAt K H kvs M) : RowE K H kvs (M.map fun c => (k2 c.1, dP2 c.2)) := by
  unfold OthAt at h
  unfold RowE
  induction h with
  | nil => exact .nil
  | cons hh _ ih => exact .cons ⟨hh.1, hh.2.dp, p2_shaped _⟩ ih
theorem othAt_len {K : PySem.W.Frag} {H : Hp} {kvs : List (List Key × V)} {M : MP} (h : OthAt K H kvs M) : kvs.length = M.length := Paired.length h
theorem OthAt.keys {K : PySem.W.Frag} {H : Hp} {kvs : List (List Key × V)} {M : MP} (h : OthAt K H kvs M) : kvs.map (·.1) = M.map fun c => k2 c.1 := by
  unfold OthAt at h
  induction h with
  | nil => rfl
  | cons hh _ ih => rw [List.map_cons, List.map_cons, ih, hh.1]
/-- put -/
def putM (M : MP) (k v : Int × Int) : MP := if (M.any fun c => decide (c.1 = k)) = true then M.map (fun c => if c.1 = k then (c.1, v) else c) else M ++ [(k, v)]
theorem OthAt.put {K : PySem.W.Frag} {H : Hp} {kvs : List (List Key × V)} {M : MP} (h : OthAt K H kvs M) {k p : Int × Int} {v : V} (hv : PrAt K H v p) : OthAt K H (putK kvs (k2 k) v) (putM M k p) := by
  have ea : (kvs.any fun kv => decide (kv.1 = k2 k)) = (M.any fun c => decide (c.1 = k)) := by
    unfold OthAt at h
    induction h with
    | nil => rfl
    | @cons p c ps cs hh _ ih =>
      rw [List.any_cons, List.any_cons, ih, hh.1]
      congr 1
      exact decide_eq_decide.mpr ⟨k2_inj, fun e => by rw [e]⟩
  unfold putK putM
  rw [ea]
  split
  · clear ea
    rename_i hany
    clear hany
    unfold OthAt at h ⊢
    induction h with
    | nil => exact .nil
    | @cons q c ps cs hh _ ih =>
      refine .cons ?_ ih
      show (if q.1 = k2 k then (q.1, v) else q).1 = k2 (if c.1 = k then (c.1, p) else c).1 ∧ PrAt K H (if q.1 = k2 k then (q.1, v) else q).2 (if c.1 = k then (c.1, p) else c).2
      by_cases e : c.1 = k
      · rw [if_pos (by rw [hh.1, e]), if_pos e]
        exact ⟨hh.1, hv⟩
      · rw [if_neg (fun z => e (k2_inj (hh.1.symm.trans z))), if_neg e]
        exact hh
  · clear ea
    rename_i hany
    clear hany
    unfold OthAt at h ⊢
    induction h with
    | nil => exact .cons ⟨rfl, hv⟩ .nil
    | cons hh _ ih => exact .cons hh ih
def dropM (M : MP) (k : Int × Int) : MP := M.filter fun c => decide (c.1 ≠ k)
theorem OthAt.drop {K : PySem.W.Frag} {H : Hp} {kvs : List (List Key × V)} {M : MP} (h : OthAt K H kvs M) (k : Int × Int) : OthAt K H (dropK kvs (k2 k)) (dropM M k) := by
  unfold OthAt at h ⊢
  unfold dropK dropM
  induction h with
  | nil => exact .nil
  | @cons p c ps cs hh _ ih =>
    by_cases e : c.1 = k
    · rw [List.filter_cons_of_neg (by simp [hh.1, e]), List.filter_cons_of_neg (by simp [e])]
      exact ih
    · rw [List.filter_cons_of_pos (by simp only [decide_eq_true_eq]; rw [hh.1]; exact fun z => e (k2_inj z)), List.filter_cons_of_pos (by simp [e])]
      exact .cons hh ih
theorem lkM_some {M : MP} {k p : Int × Int} (h : lkM M k = some p) : (k, p) ∈ M := by
  unfold lkM at h
  obtain ⟨c, hc, rfl⟩ := Option.map_eq_some_iff.mp h
  have e := List.find?_some hc
  have m := List.mem_of_find?_eq_some hc
  obtain ⟨c1, c2⟩ := c
  rw [← of_decide_eq_true e]
  exact m
theorem lkM_isSome {M : MP} {k : Int × Int} (h : k ∈ M.map (·.1)) : ∃ p, lkM M k = some p := by
  unfold lkM
  cases e : M.find? fun c => decide (c.1 = k) with
  | some c => exact ⟨_, rfl⟩
  | none =>
    obtain ⟨c, hc, rfl⟩ := List.mem_map.mp h
    exact absurd (List.find?_eq_none.mp e c hc) (by simp)
theorem lkM_of {M : MP} (nd : (M.map (·.1)).Nodup) {k p : Int × Int} (h : (k, p) ∈ M) : lkM M k = some p := by
  obtain ⟨q, hq⟩ := lkM_isSome (List.mem_map.mpr ⟨(k, p), h, rfl⟩)
  have m := lkM_some hq
  have : (k, q) = (k, p) := by
    clear hq
    induction M with
    | nil => cases h
    | cons x r ih =>
      rw [List.map_cons, List.nodup_cons] at nd
      rcases List.mem_cons.mp h with e1 | h2
      · rcases List.mem_cons.mp m with e2 | m2
        · rw [e1, e2]
        · exact absurd (List.mem_map.mpr ⟨(k, q), m2, by rw [← e1]⟩) nd.1
      · rcases List.mem_cons.mp m with e2 | m2
        · exact absurd (List.mem_map.mpr ⟨(k, p), h2, by rw [← e2]⟩) nd.1
        · exact ih nd.2 h2 m2
  rw [hq, (Prod.mk.inj this).2]
/-- the rows of such a dict compared with themselves -/
theorem sameM {M : MP} (nd : (M.map (·.1)).Nodup) : sameE (M.map fun c => (k2 c.1, dP2 c.2)) (M.map fun c => (k2 c.1, dP2 c.2)) = true := by
  refine sameE_self ?_ fun c hc => ?_
  · rw [List.map_map, List.Nodup, List.pairwise_map]
    rw [List.Nodup, List.pairwise_map] at nd
    exact nd.imp fun h z => h (k2_inj z)
  · obtain ⟨x, _, rfl⟩ := List.mem_map.mp hc
    exact p2_refl _
theorem tKey_k2 (p : Int × Int) : tKey (k2 p) = dP2 p := rfl
theorem OthAt.told {K : PySem.W.Frag} {H : Hp} {D : Addr} {kvs : List (List Key × V)} {M : MP} (hD : H D = some (.dT kvs)) (h : OthAt K H kvs M) (hb : ∀ c ∈ M, (c.1.1.natAbs < 10 ^ 12 ∧ c.1.2.natAbs < 10 ^ 12) ∧ c.2.1.natAbs < 10 ^ 12 ∧ c.2.2.natAbs < 10 ^ 12) :
    Told K H (.ref D) (.dict ((M.map fun c => (k2 c.1, dP2 c.2)).map fun c => (tKey c.1, c.2))) 3 (M.length * 300) := by
  have := told_dT (K := K) (n := 1) (w := 84) (m := 2) (C := M.map fun c => (k2 c.1, dP2 c.2)) hD ?_ ?_
  · refine this.mono (by omega) ?_
    rw [List.length_map]
    exact Nat.mul_le_mul_left _ (by decide)
  · clear hD
    unfold OthAt at h
    induction h with
    | nil => exact .nil
    | @cons p c ps cs hh _ ih =>
      have b := hb c (List.mem_cons_self ..)
      exact .cons ⟨hh.1, told_flat hh.2.dp (p2_shw b.2.1 b.2.2)⟩ (ih fun x m => hb x (List.mem_cons_of_mem _ m))
  · intro c hc
    obtain ⟨x, hx, rfl⟩ := List.mem_map.mp hc
    have b := hb x hx
    refine ⟨Nat.le_refl _, fun k hk => ?_⟩
    simp only [k2, List.mem_cons, List.not_mem_nil, or_false] at hk
    rcases hk with e | e <;> subst e
    · exact b.1.1
    · exact b.1.2
theorem but_tupT {K : PySem.W.Frag} {D t : Addr} {H H' : Hp} {l : List (List Key × V)} {xs : List V} (hD : H D = some (.dT l)) (e : But D H H') (h : SqT K H t xs) : SqT K H' t xs := by
  rcases h with (h | ⟨o, h⟩) | h
  · exact .inl (.inl (e _ _ (fun z => by rw [z, hD] at h; cases h) h))
  · exact .inl (.inr ⟨o, e _ _ (fun z => by rw [z, hD] at h; cases h) h⟩)
  · exact .inr h
theorem PrAt.but {K : PySem.W.Frag} {D : Addr} {H H' : Hp} {l : List (List Key × V)} {v : V} {p : Int × Int} (hD : H D = some (.dT l)) (e : But D H H') (h : PrAt K H v p) : PrAt K H' v p := by
  obtain ⟨t, rfl, ht⟩ := h
  exact ⟨t, rfl, but_tupT hD e ht⟩
theorem OthAt.but {K : PySem.W.Frag} {D : Addr} {H H' : Hp} {l : List (List Key × V)} (hD : H D = some (.dT l)) (e : But D H H') {kvs : List (List Key × V)} {M : MP} (h : OthAt K H kvs M) : OthAt K H' kvs M := by
  unfold OthAt at h ⊢
  induction h with
  | nil => exact .nil
  | cons hh _ ih => exact .cons ⟨hh.1, hh.2.but hD e⟩ ih
theorem putM_new {M : MP} {k v : Int × Int} (h : k ∉ M.map (·.1)) : putM M k v = M ++ [(k, v)] := by
  unfold putM
  rw [if_neg]
  intro z
  obtain ⟨c, hc, e⟩ := List.any_eq_true.mp z
  exact h (List.mem_map.mpr ⟨c, hc, of_decide_eq_true e⟩)
theorem putM_len (M : MP) (k v : Int × Int) : (putM M k v).length ≤ M.length + 1 := by
  unfold putM
  split
  · rw [List.length_map]; omega
  · rw [List.length_append]; exact Nat.le_refl _
theorem mem_putM {M : MP} {k v : Int × Int} {c : (Int × Int) × (Int × Int)} (h : c ∈ putM M k v) : c ∈ M ∨ c = (k, v) := by
  unfold putM at h
  split at h
  · obtain ⟨x, hx, rfl⟩ := List.mem_map.mp h
    by_cases e : x.1 = k
    · rw [if_pos e, e]; exact .inr rfl
    · rw [if_neg e]; exact .inl hx
  · rcases List.mem_append.mp h with h | h
    · exact .inl h
    · exact .inr (List.mem_singleton.mp h)
end SH
set_option Elab.async false
set_option linter.all false
set_option maxRecDepth 100000
set_option maxHeartbeats 4000000
/-! the paper of a single stretch -/
namespace SH
open PySem PySem.Spec PyProof.Rows L2
/-- the stretches that are asked for -/
def askN (len j : Nat) : Option Nat → List (Nat × Nat)
  | none => [(0, len)]
  | some m => ((List.range len).filter fun s => decide (s ≤ j ∧ j < s + (m - 1) ∧ s + (m - 1) ≤ len)).map fun s => (s, s + (m - 1))
theorem filter_int {n f c : Nat} (h : f + c ≤ n) : (List.range n).filter (fun s => decide (f ≤ s ∧ s < f + c)) = (List.range c).map fun k => f + k := by
  obtain ⟨r, rfl⟩ : ∃ r, n = f + (c + r) := ⟨n - (f + c), by omega⟩
  rw [List.range_add, List.filter_append, List.range_add, List.map_append, List.filter_append]
  have e1 : (List.range f).filter (fun s => decide (f ≤ s ∧ s < f + c)) = [] := List.filter_eq_nil_iff.mpr fun s hs => by
    have := List.mem_range.mp hs
    simp
    omega
  have e2 : ((List.map (fun x => f + x) (List.map (fun x => c + x) (List.range r)))).filter (fun s => decide (f ≤ s ∧ s < f + c)) = [] := List.filter_eq_nil_iff.mpr fun s hs => by
    obtain ⟨y, hy, rfl⟩ := List.mem_map.mp hs
    obtain ⟨x, hx, rfl⟩ := List.mem_map.mp hy
    simp <;> omega
  rw [e1, e2, List.nil_append, List.append_nil]
  refine List.filter_eq_self.mpr fun s hs => ?_
  obtain ⟨x, hx, rfl⟩ := List.mem_map.mp hs
  have := List.mem_range.mp hx
  simp
  omega
theorem ask_range {len j m f c : Nat} (hj : j < len) (hm : m - 1 ≤ len) (hf : f = j + 1 - (m - 1)) (hc : f + c = (if j ≤ len - (m - 1) then j else len - (m - 1)) + 1) :
    ((List.range c).map fun k => (f + k, f + k + (m - 1))) = askN len j (some m) := by
  show _ = ((List.range len).filter fun s => decide (s ≤ j ∧ j < s + (m - 1) ∧ s + (m - 1) ≤ len)).map fun s => (s, s + (m - 1))
  have e : (List.range len).filter (fun s => decide (s ≤ j ∧ j < s + (m - 1) ∧ s + (m - 1) ≤ len)) = (List.range len).filter fun s => decide (f ≤ s ∧ s < f + c) :=
    List.filter_congr fun s hs => decide_eq_decide.mpr (by split at hc <;> constructor <;> intro h <;> omega)
  by_cases hl : f + c ≤ len
  · rw [e, filter_int hl, List.map_map]
    rfl
  · have : c = 0 := by split at hc <;> omega
    subst this
    rw [e, List.filter_eq_nil_iff.mpr fun s hs => by simp <;> omega]
    rfl
theorem ask_mem {len j : Nat} (hj : j < len) {o : Option Nat} {p : Nat × Nat} (h : p ∈ askN len j o) : p.1 ≤ j ∧ j < p.2 ∧ p.2 ≤ len ∧ p.1 < p.2 ∧ ∀ m, o = some m → p.2 = p.1 + (m - 1) := by
  cases o with
  | none =>
    rw [List.mem_singleton.mp h]
    exact ⟨Nat.zero_le _, hj, Nat.le_refl _, by show 0 < len; omega, fun m e => by cases e⟩
  | some m =>
    obtain ⟨s, hs, rfl⟩ := List.mem_map.mp h
    have := of_decide_eq_true (List.mem_filter.mp hs).2
    exact ⟨this.1, this.2.1, this.2.2, by omega, fun m' e => by rw [Option.some.inj e]⟩
theorem ask_of {len j m s : Nat} (h1 : s ≤ j) (h2 : j < s + (m - 1)) (h3 : s + (m - 1) ≤ len) : (s, s + (m - 1)) ∈ askN len j (some m) :=
  List.mem_map.mpr ⟨s, List.mem_filter.mpr ⟨List.mem_range.mpr (by omega), decide_eq_true ⟨h1, h2, h3⟩⟩, rfl⟩
theorem ask_nodup (len j : Nat) (o : Option Nat) : ((askN len j o).map (·.1)).Nodup := by
  cases o with
  | none => simp [askN]
  | some m =>
    unfold askN
    rw [List.map_map, show ((fun x : Nat × Nat => x.1) ∘ fun s : Nat => (s, s + (m - 1))) = id from rfl, List.map_id]
    exact List.nodup_range.filter _
/-! ### places -/
theorem plcOf_nodup (w : Str) (q : Int × Str) : (plcOf w q).Nodup := by
  unfold plcOf
  rw [List.Nodup, List.pairwise_map]
  exact (List.nodup_range.filter _).imp fun ne e => ne (by have := (Prod.mk.inj e).2; omega)
theorem plc_nodup (w : Str) : ∀ {h : List (Int × Str)}, (h.map (·.1)).Pairwise (· < ·) → (plc h w).Nodup
  | [], _ => List.nodup_nil
  | q :: r, asc => by
    rw [List.map_cons, List.pairwise_cons] at asc
    show (plcOf w q ++ plc r w).Nodup
    rw [List.nodup_append]
    refine ⟨plcOf_nodup w q, plc_nodup w asc.2, fun x hx y hy e => ?_⟩
    subst e
    obtain ⟨t, ht, hy⟩ := List.mem_flatMap.mp hy
    have l1 := (mem_plcOf hx).1
    have l2 := (mem_plcOf hy).1
    have := asc.1 t.1 (List.mem_map_of_mem ht)
    omega
theorem mem_plc {h : List (Int × Str)} {w : Str} {x : Int × Int} (hx : x ∈ plc h w) : ∃ (z : Str) (s : Nat), (x.1, z) ∈ h ∧ x.2 = s ∧ s ≤ z.length ∧ standsP w z s = true := by
  obtain ⟨t, ht, hy⟩ := List.mem_flatMap.mp hx
  obtain ⟨e, s, e2, hs, hst⟩ := mem_plcOf hy
  exact ⟨t.2, s, by rw [e]; exact ht, e2, hs, hst⟩
theorem plc_mem {h : List (Int × Str)} {w z : Str} {n : Int} {s : Nat} (hq : (n, z) ∈ h) (hs : s ≤ z.length) (hst : standsP w z s = true) : (n, (s : Int)) ∈ plc h w :=
  List.mem_flatMap.mpr ⟨(n, z), hq, List.mem_map.mpr ⟨s, List.mem_filter.mpr ⟨List.mem_range.mpr (by show s < z.length + 1; omega), hst⟩, rfl⟩⟩
theorem own_mem {h : List (Int × Str)} {z : Str} {n : Int} {a b : Nat} (hq : (n, z) ∈ h) (h1 : a ≤ b) (h2 : b ≤ z.length) : (n, (a : Int)) ∈ plc h (cutN z a b) := by
  refine plc_mem hq (by omega) (decide_eq_true ?_)
  rw [cutN_len h1 h2, cutN_tl h1 h2]
/-- a part of the word stands where the word stands -/
theorem sub_place {h : List (Int × Str)} {z : Str} {a b s e : Nat} (h1 : a ≤ s) (h2 : s ≤ e) (h3 : e ≤ b) (h4 : b ≤ z.length) {x : Int × Int} (hx : x ∈ plc h (cutN z a b)) : (x.1, x.2 + ((s - a : Nat) : Int)) ∈ plc h (cutN z s e) := by
  obtain ⟨y, t, hy, et, ht, st⟩ := mem_plc hx
  have sl := stands_le st ht
  rw [cutN_len (by omega) h4] at sl
  have es := of_decide_eq_true st
  rw [cutN_len (by omega) h4, cutN_tl (by omega) h4] at es
  rw [et, show ((t : Int) + ((s - a : Nat) : Int)) = ((t + (s - a) : Nat) : Int) by omega]
  refine plc_mem hy (by omega) (decide_eq_true ?_)
  rw [cutN_len h2 (by omega), cutN_tl h2 (by omega)]
  have e1 : (TL.tl y).drop (t + (s - a)) = ((TL.tl y).drop t).drop (s - a) := by rw [List.drop_drop]
  have e2 : (TL.tl z).drop s = ((TL.tl z).drop a).drop (s - a) := by rw [List.drop_drop, show a + (s - a) = s by omega]
  have e3 := congrArg (fun l : List Nat => (l.drop (s - a)).take (e - s)) es
  simp only [List.drop_take, List.take_take] at e3
  rw [e1, e2]
  have m1 : min (e - s) (b - a - (s - a)) = e - s := by omega
  rw [m1] at e3
  exact e3
def other (h : List (Int × Str)) (z : Str) (n : Int) (p : Nat × Nat) : List (Int × Int) := (plc h (cutN z p.1 p.2)).filter fun x => decide (x ≠ (n, (p.1 : Int)))
theorem nodup_two {α : Type} [DecidableEq α] {l : List α} {x : α} (nd : l.Nodup) (hx : x ∈ l) (hl : l.length ≠ 1) : ∃ y r, (l.filter fun y => decide (y ≠ x)) = y :: r := by
  cases e : l.filter fun y => decide (y ≠ x) with
  | cons y r => exact ⟨y, r, rfl⟩
  | nil =>
    exfalso
    have all : ∀ y ∈ l, y = x := fun y hy => by
      have := List.filter_eq_nil_iff.mp e y hy
      simpa using this
    match l, nd, hx, hl, all with
    | [], _, hx, _, _ => cases hx
    | [y], _, _, hl, _ => exact hl rfl
    | y :: y2 :: r, nd, _, _, all =>
      rw [List.nodup_cons] at nd
      refine nd.1 ?_
      rw [all y (List.mem_cons_self ..), all y2 (List.mem_cons_of_mem _ (List.mem_cons_self ..))]
      exact List.mem_cons_self ..
def szO (r : Option (Nat × Nat)) : Option Nat := r.map (·.2)
/-- each stretch that is asked for has another place -/
theorem ask_other {h : List (Int × Str)} {z : Str} {n : Int} {j : Nat} (asc : (h.map (·.1)).Pairwise (· < ·)) (hq : (n, z) ∈ h) (hj : j < z.length) {r : Option (Nat × Nat)} (hr : LeastS h z j r) {p : Nat × Nat} (hp : p ∈ askN z.length j (szO r)) : ∃ y t, other h z n p = y :: t := by
  obtain ⟨a1, a2, a3, a4, a5⟩ := ask_mem hj hp
  refine nodup_two (plc_nodup _ asc) (own_mem hq (by omega) a3) fun e => ?_
  have sg : Sgl h z j p.1 (p.2 - p.1) := ⟨a1, by omega, by omega, by rw [show p.1 + (p.2 - p.1) = p.2 by omega]; exact e⟩
  cases r with
  | none => exact hr _ _ sg
  | some q =>
    have := a5 q.2 rfl
    have := hr.2 _ _ sg
    have := hr.1.1
    have := hr.1.2.1
    omega
def fstO (h : List (Int × Str)) (z : Str) (n : Int) (p : Nat × Nat) : Int × Int := (other h z n p).headD (0, 0)
def pI (p : Nat × Nat) : Int × Int := ((p.1 : Int), (p.2 : Int))
def dueM (h : List (Int × Str)) (z : Str) (n : Int) (j : Nat) (r : Option (Nat × Nat)) : MP := (askN z.length j (szO r)).map fun p => (pI p, fstO h z n p)
theorem dueM_nodup (h : List (Int × Str)) (z : Str) (n : Int) (j : Nat) (r : Option (Nat × Nat)) : ((dueM h z n j r).map (·.1)).Nodup := by
  unfold dueM
  have := ask_nodup z.length j (szO r)
  rw [List.map_map, List.Nodup, List.pairwise_map]
  rw [List.Nodup, List.pairwise_map] at this
  exact this.imp fun ne e => ne (by have := (Prod.mk.inj e).1; omega)
/-! ### the check -/
def askO (len j : Nat) : Option (Int × Int) → List (Nat × Nat)
  | none => askN len j none
  | some (a, b) => askN len j (some (b - a).toNat)
def okF (h : List (Int × Str)) (z : Str) (j : Nat) : Option (Int × Int) → Bool
  | none => true
  | some (a, b) => decide (0 ≤ a ∧ a ≤ (j : Int) ∧ (j : Int) < b ∧ b ≤ (z.length : Int)) && decide ((plc h (cutS z (some a) (some b))).length = 1)
def okP (h : List (Int × Str)) (z : Str) (n : Int) (M : MP) (p : Nat × Nat) : Bool := match lkM M (pI p) with
  | none => false
  | some v => decide (v ∈ other h z n p)
def dueB (h : List (Int × Str)) (z : Str) (n : Int) (j : Nat) (o : Option (Int × Int)) (M : MP) : Bool := okF h z j o && (askO z.length j o).all (okP h z n M)
def foI (r : Option (Nat × Nat)) : Option (Int × Int) := r.map fun q => ((q.1 : Int), ((q.1 + q.2 : Nat) : Int))
theorem ask_foI (len j : Nat) (r : Option (Nat × Nat)) : askO len j (foI r) = askN len j (szO r) := by
  cases r with
  | none => rfl
  | some q =>
    show askN len j (some (((q.1 + q.2 : Nat) : Int) - (q.1 : Int)).toNat) = askN len j (some q.2)
    congr 2
    omega
theorem due_ok {h : List (Int × Str)} {z : Str} {n : Int} {j : Nat} (asc : (h.map (·.1)).Pairwise (· < ·)) (hq : (n, z) ∈ h) (hj : j < z.length) {r : Option (Nat × Nat)} (hr : LeastS h z j r) : dueB h z n j (foI r) (dueM h z n j r) = true := by
  unfold dueB
  rw [ask_foI, Bool.and_eq_true]
  refine ⟨?_, List.all_eq_true.mpr fun p hp => ?_⟩
  · cases r with
    | none => rfl
    | some q =>
      obtain ⟨h1, h2, h3, h4⟩ := hr.1
      show (decide _ && decide _) = true
      rw [decide_eq_true (by omega), decide_eq_true (show (plc h (cutS z (some (q.1 : Int)) (some ((q.1 + q.2 : Nat) : Int)))).length = 1 from h4)]
      rfl
  · obtain ⟨y, t, e⟩ := ask_other asc hq hj hr hp
    unfold okP
    have m : (pI p, fstO h z n p) ∈ dueM h z n j r := List.mem_map.mpr ⟨p, hp, rfl⟩
    rw [lkM_of (dueM_nodup h z n j r) m]
    refine decide_eq_true ?_
    unfold fstO
    rw [e]
    exact List.mem_cons_self ..
/-- what is told true is no longer than the shortest -/
theorem due_le {h : List (Int × Str)} {z : Str} {n : Int} {j : Nat} (asc : (h.map (·.1)).Pairwise (· < ·)) (hq : (n, z) ∈ h) {r : Option (Nat × Nat)} (hr : LeastS h z j r) {a b : Int} {M : MP} (hd : dueB h z n j (some (a, b)) M = true) :
    ∃ s m, r = some (s, m) ∧ b - a ≤ (m : Int) := by
  unfold dueB at hd
  rw [Bool.and_eq_true] at hd
  obtain ⟨h1, h2⟩ := hd
  have h1 : (decide (0 ≤ a ∧ a ≤ (j : Int) ∧ (j : Int) < b ∧ b ≤ (z.length : Int)) && decide ((plc h (cutS z (some a) (some b))).length = 1)) = true := h1
  rw [Bool.and_eq_true] at h1
  obtain ⟨c1, c2, c3, c4⟩ := of_decide_eq_true h1.1
  have one := of_decide_eq_true h1.2
  obtain ⟨a, rfl⟩ : ∃ x : Nat, a = x := ⟨a.toNat, by omega⟩
  obtain ⟨b, rfl⟩ : ∃ x : Nat, b = x := ⟨b.toNat, by omega⟩
  have sg : Sgl h z j a (b - a) := ⟨by omega, by omega, by omega, by rw [show a + (b - a) = b by omega]; exact one⟩
  cases r with
  | none => exact absurd sg (hr _ _)
  | some q =>
    obtain ⟨s, m⟩ := q
    refine ⟨s, m, rfl, ?_⟩
    rcases Nat.lt_or_ge m (b - a) with lt | ge
    · exfalso
      obtain ⟨g1, g2, g3, g4⟩ := hr.1
      have g1 : s ≤ j := g1
      have g2 : j < s + m := g2
      have g3 : s + m ≤ z.length := g3
      -- the stretch of one letter less that holds the shortest
      obtain ⟨t, t1, t2, t3⟩ : ∃ t, t ≤ s ∧ s + m ≤ t + (b - a - 1) ∧ t + (b - a - 1) ≤ z.length := by
        refine ⟨min s (z.length - (b - a - 1)), ?_, ?_, ?_⟩ <;> omega
      have hp : (t, t + (b - a - 1)) ∈ askN z.length j (some (b - a)) := ask_of (by omega) (by omega) t3
      have e0 : askO z.length j (some ((a : Int), (b : Int))) = askN z.length j (some (b - a)) := by
        show askN z.length j (some ((b : Int) - (a : Int)).toNat) = _
        congr 2
        omega
      rw [e0] at h2
      have ok := List.all_eq_true.mp h2 _ hp
      unfold okP at ok
      cases ev : lkM M (pI (t, t + (b - a - 1))) with
      | none => rw [ev] at ok; cases ok
      | some v =>
        rw [ev] at ok
        have hv := of_decide_eq_true ok
        obtain ⟨v1, v2⟩ := List.mem_filter.mp hv
        have hne := of_decide_eq_true v2
        have w1 := sub_place (e := s + m) t1 (by omega) t2 t3 v1
        have w2 := own_mem (n := n) hq (a := s) (b := s + m) (by omega) g3
        have g4 : (plc h (cutN z s (s + m))).length = 1 := g4
        match hl : plc h (cutN z s (s + m)), g4 with
        | [x], _ =>
          rw [hl] at w1 w2
          have e1 := List.mem_singleton.mp w1
          have e2 := List.mem_singleton.mp w2
          have e3 := e1.trans e2.symm
          obtain ⟨e4, e5⟩ := Prod.mk.inj e3
          refine hne ?_
          show v = (n, (t : Int))
          rw [← e4]
          obtain ⟨va, vb⟩ := v
          have e5 : vb + ((s - t : Nat) : Int) = (s : Int) := e5
          show (va, vb) = (va, (t : Int))
          rw [show vb = (t : Int) by omega]
    · omega
end SH
set_option Elab.async false
set_option linter.all false
set_option maxRecDepth 100000
set_option maxHeartbeats 4000000
/-! a op1 b op2 c op3 d -/
namespace SH
open PySem PySem.Spec PyProof.Rows L2
section
variable {X : Cx} {a b c d : Expr} {ta tb tc td : TE} {pos : Pos}
def tChain3 (r r' r'' : R2) (ta tb tc td : TE) : TE := fun σ H Q => ta σ H fun x H1 => tb σ H1 fun y H2 => r x y H2 fun z H3 => ∃ k, z = .bl k ∧
  (if k = true then tc σ H3 fun w' H4 => r' y w' H4 fun z' H5 => ∃ k', z' = .bl k' ∧ (if k' = true then td σ H5 fun u' H6 => r'' w' u' H6 Q else Q (.bl false) H5) else Q (.bl false) H3)
theorem pe_chain3 {op op' op'' : CmpOp} {r r' r'' : R2} (ho : OpR X (compareOp op) r) (ho' : OpR X (compareOp op') r') (ho'' : OpR X (compareOp op'') r'') (ha : PE X a ta) (hb : PE X b tb) (hc : PE X c tc) (hd : PE X d td)
    (hm : lastMarks [op, op', op''] [b, c, d] = false := by with_unfolding_all rfl) : PE X (.Compare a [op, op', op''] [b, c, d] pos) (tChain3 r r' r'' ta tb tc td) := by
  refine ⟨fun pins s σ H Q I h => ?_⟩
  refine Compare_chain (thn (ha.run pins s σ H _ I h) fun v s1 ⟨x, H1, I1, r1, q1⟩ => chain_link (thn (hb.run pins s1 σ H1 _ I1 q1) fun u s2 ⟨y, H2, I2, r2, q2⟩ =>
    thn (ho pins s2 σ H2 x y v u _ I2 r1 r2 q2) fun d s3 ⟨z, H3, I3, r3, k, e, q3⟩ => ?_)) hm
  subst e
  cases r3
  refine wpAny_truthy_bool ?_
  cases k with
  | false => exact ite_ff ⟨.bl false, H3, I3, rfl, q3⟩
  | true =>
    refine ite_tt (chain_link (thn (hc.run pins s3 σ H3 _ I3 q3) fun u3 s4 ⟨y3, H4, I4, r4, q4⟩ => thn (ho' pins s4 σ H4 y y3 u u3 _ I4 r2 r4 q4) fun d5 s5 ⟨z5, H5, I5, r5, k5, e5, q5⟩ => ?_))
    subst e5
    cases r5
    refine wpAny_truthy_bool ?_
    cases k5 with
    | false => exact ite_ff ⟨.bl false, H5, I5, rfl, q5⟩
    | true => exact ite_tt (chain_last (thn (hd.run pins s5 σ H5 _ I5 q5) fun w' s6 ⟨z', H6, I6, r6, q6⟩ => ho'' pins s6 σ H6 y3 z' u3 w' Q I6 r4 r6 q6))
theorem pt_chain3 {op op' op'' : CmpOp} {r r' r'' : R2} (ho : OpR X (compareOp op) r) (ho' : OpR X (compareOp op') r') (ho'' : OpR X (compareOp op'') r'') (ha : PE X a ta) (hb : PE X b tb) (hc : PE X c tc) (hd : PE X d td)
    (hm : lastMarks [op, op', op''] [b, c, d] = false := by with_unfolding_all rfl) : PT X (.Compare a [op, op', op''] [b, c, d] pos) (tTest (tChain3 r r' r'' ta tb tc td)) := by
  refine ⟨fun pins s σ H Q I h => ?_⟩
  refine isTrue_chain (thn (ha.run pins s σ H _ I h) fun v s1 ⟨x, H1, I1, r1, q1⟩ => test_link (thn (hb.run pins s1 σ H1 _ I1 q1) fun u s2 ⟨y, H2, I2, r2, q2⟩ =>
    thn (ho pins s2 σ H2 x y v u _ I2 r1 r2 q2) fun d s3 ⟨z, H3, I3, r3, k, e, q3⟩ => ?_)) hm
  subst e
  cases r3
  refine wpAny_truthy_bool ?_
  cases k with
  | false =>
    obtain ⟨k', e', q'⟩ := q3
    cases e'
    exact ite_ff ⟨H3, I3, q'⟩
  | true =>
    refine ite_tt (test_link (thn (hc.run pins s3 σ H3 _ I3 q3) fun u3 s4 ⟨y3, H4, I4, r4, q4⟩ => thn (ho' pins s4 σ H4 y y3 u u3 _ I4 r2 r4 q4) fun d5 s5 ⟨z5, H5, I5, r5, k5, e5, q5⟩ => ?_))
    subst e5
    cases r5
    refine wpAny_truthy_bool ?_
    cases k5 with
    | false =>
      obtain ⟨k', e', q'⟩ := q5
      cases e'
      exact ite_ff ⟨H5, I5, q'⟩
    | true =>
      refine ite_tt (test_last (thn (hd.run pins s5 σ H5 _ I5 q5) fun w' s6 ⟨z', H6, I6, r6, q6⟩ => thn (ho'' pins s6 σ H6 y3 z' u3 w' _ I6 r4 r6 q6) fun d' s7 ⟨z2, H7, I7, r7, k2, e2, q7⟩ => ?_))
      subst e2
      cases r7
      exact wpAny_truthy_bool ⟨H7, I7, q7⟩
end
end SH
set_option Elab.async false
set_option linter.all false
set_option maxRecDepth 100000
set_option maxHeartbeats 4000000
/-! a op1 b op2 c op3 d op4 e -/
namespace SH
open PySem PySem.Spec PyProof.Rows L2
section
variable {X : Cx} {a b c d f : Expr} {ta tb tc td tf : TE} {pos : Pos}
def tChain4 (r r' r'' r3 : R2) (ta tb tc td tf : TE) : TE := fun σ H Q => ta σ H fun x H1 => tb σ H1 fun y H2 => r x y H2 fun z H3 => ∃ k, z = .bl k ∧
  (if k = true then tc σ H3 fun w' H4 => r' y w' H4 fun z' H5 => ∃ k', z' = .bl k' ∧ (if k' = true then td σ H5 fun u' H6 => r'' w' u' H6 fun z2 H7 => ∃ k2, z2 = .bl k2 ∧
    (if k2 = true then tf σ H7 fun w2 H8 => r3 u' w2 H8 Q else Q (.bl false) H7) else Q (.bl false) H5) else Q (.bl false) H3)
theorem pe_chain4 {op op' op'' op3 : CmpOp} {r r' r'' r3 : R2} (ho : OpR X (compareOp op) r) (ho' : OpR X (compareOp op') r') (ho'' : OpR X (compareOp op'') r'') (ho3 : OpR X (compareOp op3) r3) (ha : PE X a ta) (hb : PE X b tb) (hc : PE X c tc) (hd : PE X d td) (hf : PE X f tf)
    (hm : lastMarks [op, op', op'', op3] [b, c, d, f] = false := by with_unfolding_all rfl) : PE X (.Compare a [op, op', op'', op3] [b, c, d, f] pos) (tChain4 r r' r'' r3 ta tb tc td tf) := by
  refine ⟨fun pins s σ H Q I h => ?_⟩
  refine Compare_chain (thn (ha.run pins s σ H _ I h) fun v s1 ⟨x, H1, I1, r1, q1⟩ => chain_link (thn (hb.run pins s1 σ H1 _ I1 q1) fun u s2 ⟨y, H2, I2, r2, q2⟩ =>
    thn (ho pins s2 σ H2 x y v u _ I2 r1 r2 q2) fun d s3 ⟨z, H3, I3, r3, k, e, q3⟩ => ?_)) hm
  subst e
  cases r3
  refine wpAny_truthy_bool ?_
  cases k with
  | false => exact ite_ff ⟨.bl false, H3, I3, rfl, q3⟩
  | true =>
    refine ite_tt (chain_link (thn (hc.run pins s3 σ H3 _ I3 q3) fun u3 s4 ⟨y3, H4, I4, r4, q4⟩ => thn (ho' pins s4 σ H4 y y3 u u3 _ I4 r2 r4 q4) fun d5 s5 ⟨z5, H5, I5, r5, k5, e5, q5⟩ => ?_))
    subst e5
    cases r5
    refine wpAny_truthy_bool ?_
    cases k5 with
    | false => exact ite_ff ⟨.bl false, H5, I5, rfl, q5⟩
    | true =>
      refine ite_tt (chain_link (thn (hd.run pins s5 σ H5 _ I5 q5) fun u6 s6 ⟨y6, H6, I6, r6, q6⟩ => thn (ho'' pins s6 σ H6 y3 y6 u3 u6 _ I6 r4 r6 q6) fun d7 s7 ⟨z7, H7, I7, r7, k7, e7, q7⟩ => ?_))
      subst e7
      cases r7
      refine wpAny_truthy_bool ?_
      cases k7 with
      | false => exact ite_ff ⟨.bl false, H7, I7, rfl, q7⟩
      | true => exact ite_tt (chain_last (thn (hf.run pins s7 σ H7 _ I7 q7) fun w' s8 ⟨z', H8, I8, r8, q8⟩ => ho3 pins s8 σ H8 y6 z' u6 w' Q I8 r6 r8 q8))
theorem pt_chain4 {op op' op'' op3 : CmpOp} {r r' r'' r3 : R2} (ho : OpR X (compareOp op) r) (ho' : OpR X (compareOp op') r') (ho'' : OpR X (compareOp op'') r'') (ho3 : OpR X (compareOp op3) r3) (ha : PE X a ta) (hb : PE X b tb) (hc : PE X c tc) (hd : PE X d td) (hf : PE X f tf)
    (hm : lastMarks [op, op', op'', op3] [b, c, d, f] = false := by with_unfolding_all rfl) : PT X (.Compare a [op, op', op'', op3] [b, c, d, f] pos) (tTest (tChain4 r r' r'' r3 ta tb tc td tf)) := by
  refine ⟨fun pins s σ H Q I h => ?_⟩
  refine isTrue_chain (thn (ha.run pins s σ H _ I h) fun v s1 ⟨x, H1, I1, r1, q1⟩ => test_link (thn (hb.run pins s1 σ H1 _ I1 q1) fun u s2 ⟨y, H2, I2, r2, q2⟩ =>
    thn (ho pins s2 σ H2 x y v u _ I2 r1 r2 q2) fun d s3 ⟨z, H3, I3, r3, k, e, q3⟩ => ?_)) hm
  subst e
  cases r3
  refine wpAny_truthy_bool ?_
  cases k with
  | false =>
    obtain ⟨k', e', q'⟩ := q3
    cases e'
    exact ite_ff ⟨H3, I3, q'⟩
  | true =>
    refine ite_tt (test_link (thn (hc.run pins s3 σ H3 _ I3 q3) fun u3 s4 ⟨y3, H4, I4, r4, q4⟩ => thn (ho' pins s4 σ H4 y y3 u u3 _ I4 r2 r4 q4) fun d5 s5 ⟨z5, H5, I5, r5, k5, e5, q5⟩ => ?_))
    subst e5
    cases r5
    refine wpAny_truthy_bool ?_
    cases k5 with
    | false =>
      obtain ⟨k', e', q'⟩ := q5
      cases e'
      exact ite_ff ⟨H5, I5, q'⟩
    | true =>
      refine ite_tt (test_link (thn (hd.run pins s5 σ H5 _ I5 q5) fun u6 s6 ⟨y6, H6, I6, r6, q6⟩ => thn (ho'' pins s6 σ H6 y3 y6 u3 u6 _ I6 r4 r6 q6) fun d7 s7 ⟨z7, H7, I7, r7, k7, e7, q7⟩ => ?_))
      subst e7
      cases r7
      refine wpAny_truthy_bool ?_
      cases k7 with
      | false =>
        obtain ⟨k', e', q'⟩ := q7
        cases e'
        exact ite_ff ⟨H7, I7, q'⟩
      | true =>
        refine ite_tt (test_last (thn (hf.run pins s7 σ H7 _ I7 q7) fun w' s8 ⟨z', H8, I8, r8, q8⟩ => thn (ho3 pins s8 σ H8 y6 z' u6 w' _ I8 r6 r8 q8) fun d' s9 ⟨z2, H9, I9, r9, k2, e2, q9⟩ => ?_))
        subst e2
        cases r9
        exact wpAny_truthy_bool ⟨H9, I9, q9⟩
end
end SH
set_option Elab.async false
set_option linter.all false
set_option maxRecDepth 100000
set_option maxHeartbeats 4000000
namespace SH
open PySem PySem.Spec PyProof.Rows L2
def topS (i : Nat) : Stmt := PySem.Challenge.pw_suffixhouse_k22_papers_of_single_stretch.main.body.getD i (.Pass ⟨0, 0, 0, 0⟩)
abbrev s_text_of : Stmt := topS 5
abbrev s_places : Stmt := topS 7
abbrev s_count : Stmt := topS 8
abbrev s_shortest_single : Stmt := topS 10
abbrev s_text_with_letter : Stmt := topS 11
abbrev s_stretches_over : Stmt := topS 12
abbrev s_single_places : Stmt := topS 14
abbrev s_check_single : Stmt := topS 15
abbrev s__asked_stretches : Stmt := topS 16
abbrev s__other_places : Stmt := topS 17
abbrev s__is_single_over : Stmt := topS 18
abbrev s__law_draws : Stmt := topS 20
abbrev s__law_mix : Stmt := topS 24
abbrev s__law_text : Stmt := topS 25
abbrev s__law_house : Stmt := topS 26
abbrev s__law_places : Stmt := topS 27
abbrev s__law_named : Stmt := topS 28
abbrev s__law_others : Stmt := topS 29
abbrev s__law_due : Stmt := topS 30
abbrev s__law_told : Stmt := topS 31
abbrev s__law_is_refused : Stmt := topS 32
abbrev s_law : Stmt := topS 33
structure Ea where
  fI : Addr
  c_HouseError : Addr
  c_NoText : Addr
  c_OutOfRange : Addr
abbrev s_init : Stmt := inClass (topS 1) 0
structure Txt (K : PySem.W.Frag) (mg : Str → Option Value) (ea : Ea) : Prop where
  b_abs : mg "abs" = none
  b_bool : mg "bool" = none
  b_dict : mg "dict" = none
  b_int : mg "int" = none
  b_isinstance : mg "isinstance" = none
  b_len : mg "len" = none
  b_list : mg "list" = none
  b_max : mg "max" = none
  b_min : mg "min" = none
  b_range : mg "range" = none
  b_repr : mg "repr" = none
  b_sorted : mg "sorted" = none
  d_text_of : Dd K mg "text_of" s_text_of ["house", "number"]
  d_places : Dd K mg "places" s_places ["house", "word"]
  d_count : Dd K mg "count" s_count ["house", "word"]
  d_shortest_single : Dd K mg "shortest_single" s_shortest_single ["house", "number", "index"]
  d_text_with_letter : Dd K mg "text_with_letter" s_text_with_letter ["house", "number", "index"]
  d_stretches_over : Dd K mg "stretches_over" s_stretches_over ["text", "index", "size"]
  d_single_places : Dd K mg "single_places" s_single_places ["house", "number", "index"]
  d_check_single : Dd K mg "check_single" s_check_single ["house", "number", "index", "found", "others"]
  d__asked_stretches : Dd K mg "_asked_stretches" s__asked_stretches ["text", "index", "found"]
  d__other_places : Dd K mg "_other_places" s__other_places ["house", "word", "own"]
  d__is_single_over : Dd K mg "_is_single_over" s__is_single_over ["house", "text", "index", "found"]
  d__law_draws : Dd K mg "_law_draws" s__law_draws ["script"]
  d__law_mix : Dd K mg "_law_mix" s__law_mix ["draws", "k", "many"]
  d__law_text : Dd K mg "_law_text" s__law_text ["draws", "k", "most"]
  d__law_house : Dd K mg "_law_house" s__law_house ["draws", "k", "most"]
  d__law_places : Dd K mg "_law_places" s__law_places ["house", "word"]
  d__law_named : Dd K mg "_law_named" s__law_named ["text", "index", "found"]
  d__law_others : Dd K mg "_law_others" s__law_others ["house", "number", "index", "found"]
  d__law_due : Dd K mg "_law_due" s__law_due ["house", "number", "index", "found", "others"]
  d__law_told : Dd K mg "_law_told" s__law_told ["which", "house", "number", "index"]
  d__law_is_refused : Dd K mg "_law_is_refused" s__law_is_refused ["draws", "house"]
  d_law : Dd K mg "law" s_law ["script"]
  init : DdI K "HouseError.__init__" s_init ea.fI
  x_HouseError : ErrC K mg "HouseError" ea.c_HouseError ea.fI
  x_NoText : ErrC K mg "NoText" ea.c_NoText ea.fI
  x_OutOfRange : ErrC K mg "OutOfRange" ea.c_OutOfRange ea.fI
  e_NoText_NoText : PySem.W.exmOne K (.ref ea.c_NoText) (.ref ea.c_NoText) = some true
  e_NoText_OutOfRange : PySem.W.exmOne K (.ref ea.c_NoText) (.ref ea.c_OutOfRange) = some false
  e_OutOfRange_NoText : PySem.W.exmOne K (.ref ea.c_OutOfRange) (.ref ea.c_NoText) = some false
  e_OutOfRange_OutOfRange : PySem.W.exmOne K (.ref ea.c_OutOfRange) (.ref ea.c_OutOfRange) = some true
section
variable {P : Program} {w : World} {K : PySem.W.Frag} {mg : Str → Option Value} {base : Heap} {ea : Ea}
theorem sc__law_mix : FnScope ["draws", "k", "many", "value"] ["draws", "k", "many"] (defScope s__law_mix) := ⟨rfl, rfl, rfl, by decide +kernel, rfl, by decide +kernel, by decide +kernel⟩
theorem ok__law_mix (T : Txt K mg ea) : Cl P w K mg base 1 "_law_mix" (spDraw K) := by
  have nd := sc__law_mix.nd
  refine cl_of T.d__law_mix sc__law_mix (fun vs H Q E h => ?_) (fun f cdv A outer s H vs Q E hr h => ?_)
  · obtain ⟨a, ns, k, many, rfl, _⟩ := h
    rfl
  · obtain ⟨a, ns, k, many, rfl, hS, hD, h0, h1, hm, q⟩ := h
    refine ⟨_, (pss_cons (ps_set (i := 3) nd rfl (.inl rfl) pe_int)
      (C8.pss_cut (ps_if (pt_cmpR op_gt (pe_callB call_len_seq (by rfl) T.b_len PySem.boot_len (pa_cons (pv 0) pa_nil)) pe_int (nomark _))
        (pss_one (ps_set (i := 3) nd rfl (.inl rfl) (pe_ix (ixl (K := K)) (pv 0) (pe_op op_mod (pe_callTy call_int1 (by rfl) T.b_int (by decide +kernel) (pa_cons (pv 1) pa_nil)) (pe_callB call_len_seq (by rfl) T.b_len PySem.boot_len (pa_cons (pv 0) pa_nil))) (fun _ _ => rfl))))
        pss_nil)
      (pss_cons (ps_if (pt_cmpR op_lt (pv 1) (pe_callB call_len_seq (by rfl) T.b_len PySem.boot_len (pa_cons (pv 0) pa_nil)) (nomark _))
        (pss_one (ps_ret (pe_op op_mod (pe_callTy call_int1 (by rfl) T.b_int (by decide +kernel) (pa_cons (pv 3) pa_nil)) (pv 2))))
        pss_nil)
      (pss_one (ps_ret (pe_op op_mod (pe_callTy call_int1 (by rfl) T.b_int (by decide +kernel) (pa_cons (pe_op op_fdiv (pe_callTy call_int1 (by rfl) T.b_int (by decide +kernel) (pa_cons (pe_op op_add (pe_op op_mul (pv 3) pe_int) (pe_op op_mul (pv 1) pe_int)) pa_nil)) pe_int) pa_nil)) (pv 2))))))), ?_⟩
    have hl : (ns.map V.int).length = ns.length := List.length_map ..
    -- the value is a small number behind the if
    refine ⟨fun σ H' => H' = H ∧ ∃ z : Int, 0 ≤ z ∧ z < 65536 ∧ σ = [some (.ref a), some (.int k), some (.int many), some (.int z)], ?_, ?_⟩
    · refine ⟨_, rfl, _, _, rfl, .inl hS, _, _, rfl, rfl, _, rfl, ite2 (fun e => ?_) (fun e => ?_)⟩
      · have e' := of_decide_eq_true e
        rw [hl] at e'
        obtain ⟨z, hz, hm2⟩ := at_ints (ns := ns) (i := k % (ns.length : Int)) (Int.emod_nonneg _ (by omega)) (Int.emod_lt_of_pos _ (by omega))
        refine ⟨_, rfl, _, rfl, .inl ⟨_, rfl, _, rfl, _, _, rfl, .inl hS, _, _, rfl, rfl, (by show (0 : Int) < ((ns.map V.int).length : Int); omega), ?_⟩⟩
        refine ⟨_, _, _, _, rfl, rfl, hS, (by rw [hl]; exact hz), ?_⟩
        exact ⟨rfl, z, (hD.2 z hm2).1, (hD.2 z hm2).2, rfl⟩
      · exact ⟨rfl, 0, by omega, by omega, rfl⟩
    · rintro σ' H' ⟨rfl, z, z0, z1, rfl⟩
      refine ⟨_, rfl, _, rfl, _, _, rfl, .inl hS, _, _, rfl, rfl, _, rfl, ite2 (fun e => ?_) (fun e => ?_)⟩
      · refine ⟨_, rfl, .inl ⟨_, rfl, _, rfl, _, _, rfl, rfl, hm, ?_⟩⟩
        exact q _ (Int.emod_nonneg _ (by omega)) (Int.emod_lt_of_pos _ hm)
      · refine ⟨_, rfl, _, _, rfl, rfl, .inr (by decide), _, rfl, _, _, rfl, rfl, .inr (by decide), _, _, rfl, rfl, .inl ⟨_, rfl, _, _, rfl, rfl, (by constructor <;> decide), .inl ⟨_, rfl, _, rfl, _, _, rfl, rfl, hm, ?_⟩⟩⟩
        exact q _ (Int.emod_nonneg _ (by omega)) (Int.emod_lt_of_pos _ hm)
end

section
variable {P : Program} {w : World} {K : PySem.W.Frag} {mg : Str → Option Value} {base : Heap} {ea : Ea}
/-- the numbers drawn from the script: a new list of small numbers -/
def spDraws (K : PySem.W.Frag) : Sp := fun vs H Q _ => ∃ (a : Addr) (ns : List Int), vs = [.ref a] ∧ SqL K H a (ns.map V.int) ∧ ns.length ≤ 63 ∧
  ∀ (p : Addr) (ds : List Int) (H' : Hp), Same H H' → H p = none → H' p = some (.lst (ds.map V.int)) → Dr ds → Q (.ref p) H'
/-- the list at p so far -/
structure DrAt (H H' : Hp) (p : Addr) (n : Nat) (ds : List Int) : Prop where
  sm : Same H H'
  at_ : H' p = some (.lst (ds.map V.int))
  len : ds.length ≤ n
  all : ∀ z ∈ ds, 0 ≤ z ∧ z < 65536
theorem DrAt.more {H H' : Hp} {p : Addr} {n : Nat} {ds : List Int} (h : DrAt H H' p n ds) (hp : H p = none) {z : Int} (z0 : 0 ≤ z) (z1 : z < 65536) : DrAt H (upd H' p (.lst (ds.map V.int ++ [.int z]))) p (n + 1) (ds ++ [z]) :=
  ⟨same_mut h.sm hp, by rw [upd_same, List.map_append]; rfl, by rw [List.length_append]; have := h.len; simp; omega, fun y hy => by
    rcases List.mem_append.mp hy with m | m
    · exact h.all y m
    · rw [List.mem_singleton.mp m]; exact ⟨z0, z1⟩⟩
theorem DrAt.mono {H H' : Hp} {p : Addr} {n m : Nat} {ds : List Int} (h : DrAt H H' p n ds) (l : n ≤ m) : DrAt H H' p m ds := ⟨h.sm, h.at_, Nat.le_trans h.len l, h.all⟩
theorem sc__law_draws : FnScope ["script", "draws", "k", "rest", "turn", "mixed"] ["script"] (defScope s__law_draws) := ⟨rfl, rfl, rfl, by decide +kernel, rfl, by decide +kernel, by decide +kernel⟩
theorem ok__law_draws (T : Txt K mg ea) : Cl P w K mg base 1 "_law_draws" (spDraws K) := by
  have nd := sc__law_draws.nd
  refine cl_of T.d__law_draws sc__law_draws (fun vs H Q E h => ?_) (fun f cdv A outer s H vs Q E hr h => ?_)
  · obtain ⟨a, ns, rfl, _⟩ := h
    rfl
  · obtain ⟨a, ns, rfl, hS, hl, q⟩ := h
    refine ⟨_, (pss_cons (ps_set (i := 1) nd rfl (.inl rfl) (pe_lst pa_nil))
      (pss_cons (ps_for PassesOwn.never rfl (pi_range1 rfl T.b_range (pa_cons (pe_callB (call_min2 rfl) (by rfl) T.b_min (by decide +kernel) (pa_cons pe_int (pa_cons (pe_callB call_len_seq (by rfl) T.b_len PySem.boot_len (pa_cons (pv 0) pa_nil)) pa_nil))) pa_nil)) (pg_name (i := 2) nd rfl (.inl rfl))
        (pss_cons (ps_set (i := 3) nd rfl (.inl rfl) (pe_callB call_abs (by rfl) T.b_abs (by decide +kernel) (pa_cons (pe_ix (ixl (K := K)) (pv 0) (pv 2) (fun _ _ => rfl)) pa_nil)))
          (pss_one (ps_if (pt_cmpR op_ge (pv 3) (pe_op op_pow pe_int pe_int) (nomark _))
            (pss_one (ps_for PassesOwn.never rfl (pi_range1 rfl T.b_range (pa_cons pe_int pa_nil)) (pg_name (i := 4) nd rfl (.inl rfl))
                (pss_one (ps_if (pt_cmpR op_gt (pv 3) pe_int (nomark _))
                    (pss_cons (ps_expr (pe_bm PySem.F.plainAttrs_list PySem.F.slot_list_append PySem.F.type_list_append mt_append (pv 1) (pa_cons (pe_op op_mod (pe_callTy call_int1 (by rfl) T.b_int (by decide +kernel) (pa_cons (pv 3) pa_nil)) pe_int) pa_nil)))
                      (pss_one (ps_set (i := 3) nd rfl (.inl rfl) (pe_op op_fdiv (pv 3) pe_int))))
                    pss_nil))))
            (pss_cons (ps_set (i := 5) nd rfl (.inl rfl) (pe_op op_mod (pe_callTy call_int1 (by rfl) T.b_int (by decide +kernel) (pa_cons (pe_op op_add (pe_op op_mul (pv 3) pe_int) (pe_op op_mul (pe_op op_add (pv 2) pe_int) pe_int)) pa_nil)) pe_int))
              (pss_cons (ps_set (i := 5) nd rfl (.inl rfl) (pe_op op_mod (pe_callTy call_int1 (by rfl) T.b_int (by decide +kernel) (pa_cons (pe_op op_add (pe_op op_add (pe_op op_mul (pv 5) pe_int) (pe_op op_mul pe_int (pv 2))) pe_int) pa_nil)) pe_int))
              (pss_cons (ps_expr (pe_bm PySem.F.plainAttrs_list PySem.F.slot_list_append PySem.F.type_list_append mt_append (pv 1) (pa_cons (pe_op op_mod (pe_callTy call_int1 (by rfl) T.b_int (by decide +kernel) (pa_cons (pv 5) pa_nil)) pe_int) pa_nil)))
              (pss_one (ps_expr (pe_bm PySem.F.plainAttrs_list PySem.F.slot_list_append PySem.F.type_list_append mt_append (pv 1) (pa_cons (pe_op op_mod (pe_callTy call_int1 (by rfl) T.b_int (by decide +kernel) (pa_cons (pe_op op_fdiv (pv 5) pe_int) pa_nil)) pe_int) pa_nil)))))))))))
      (pss_one (ps_ret (pv 1))))), ?_⟩
    refine ⟨Nat.zero_le _, fun p hp => ?_⟩
    have sm0 : Same H (upd H p (.lst [])) := same_new hp
    have hlen : (ns.map V.int).length = ns.length := List.length_map ..
    refine ⟨_, rfl, _, _, rfl, .inl (sm0.seq hS), _, _, rfl, ?_⟩
    have hm : (if ((ns.map V.int).length : Int) < 63 then ((ns.map V.int).length : Int) else 63) ≤ ns.length ∧ 0 ≤ (if ((ns.map V.int).length : Int) < 63 then ((ns.map V.int).length : Int) else 63) ∧ (if ((ns.map V.int).length : Int) < 63 then ((ns.map V.int).length : Int) else 63) ≤ 63 := by
      rw [hlen]; split <;> omega
    refine ⟨_, rfl, by omega, by omega, ?_⟩
    generalize (if ((ns.map V.int).length : Int) < 63 then ((ns.map V.int).length : Int) else 63) = m at hm ⊢
    obtain ⟨m1, m0, m2⟩ := hm
    refine for_range (lo := 0) (n := m.toNat) (fun i σ H' => ∃ (ds : List Int) (y2 y3 y4 y5 : Option V), σ = [some (.ref a), some (.ref p), y2, y3, y4, y5] ∧ DrAt H H' p (60 * i) ds)
      ⟨[], none, none, none, none, rfl, sm0, upd_same, Nat.zero_le _, fun z hz => by cases hz⟩ (fun i σ H' hi hW => ?_) (fun σ H' hW => ?_)
    · obtain ⟨ds, y2, y3, y4, y5, rfl, hA⟩ := hW
      obtain ⟨z, hz, _⟩ := at_ints (ns := ns) (i := 0 + (i : Int)) (by omega) (by omega)
      refine ⟨_, rfl, _, rfl, _, _, _, _, rfl, rfl, hA.sm.seq hS, hz, _, rfl, ?_⟩
      generalize (if z < 0 then -z else z) = r
      refine ⟨_, rfl, _, _, rfl, rfl, ⟨by decide, by decide, by decide⟩, _, _, rfl, rfl, _, rfl, ite2 (fun e => ?_) (fun e => ?_)⟩
      · -- a great number: its digits
        refine ⟨60, rfl, by decide, by decide, ?_⟩
        refine for_range (lo := 0) (n := 60) (fun j σ H' => ∃ (ds : List Int) (r' : Int) (y4 : Option V), σ = [some (.ref a), some (.ref p), some (.int (0 + (i : Int))), some (.int r'), y4, y5] ∧ DrAt H H' p (60 * i + j) ds)
          ⟨ds, r, y4, rfl, hA⟩ (fun j σ H2 hj hW => ?_) (fun σ H2 hW => ?_)
        · obtain ⟨ds2, r2, y42, rfl, hA2⟩ := hW
          refine ⟨_, rfl, _, _, rfl, rfl, _, rfl, ite2 (fun e => ?_) (fun e => ?_)⟩
          · refine ⟨_, rfl, .inl ⟨rfl, _, SqL.of hA2.at_⟩, _, rfl, .inl ⟨_, rfl, _, _, rfl, rfl, (by show (0 : Int) < 65536; decide), ?_⟩⟩
            refine ⟨p, _, _, rfl, rfl, hA2.at_, ?_, ?_⟩
            · rw [List.length_map]; exact Nat.lt_of_le_of_lt (Nat.le_trans hA2.len (by omega : _ ≤ 4000)) (by decide)
            · refine ⟨_, rfl, _, _, rfl, rfl, (by constructor <;> decide), ?_⟩
              exact ⟨_, _, _, rfl, hA2.more hp (Int.emod_nonneg _ (by decide)) (Int.emod_lt_of_pos _ (by decide))⟩
          · exact ⟨ds2, r2, _, rfl, hA2.mono (by omega)⟩
        · obtain ⟨ds2, r2, y42, rfl, hA2⟩ := hW
          exact ⟨ds2, _, _, _, _, rfl, hA2.mono (by omega)⟩
      · -- a lesser one: two numbers mixed
        refine ⟨_, rfl, _, _, rfl, rfl, .inr (by decide), _, rfl, _, _, rfl, rfl, _, _, rfl, rfl, .inr (by decide), _, _, rfl, rfl, .inl ⟨_, rfl, _, _, rfl, rfl, (by show (0 : Int) < 2147483647; decide), ?_⟩⟩
        refine ⟨_, rfl, _, _, rfl, rfl, .inr (by decide), _, rfl, _, _, rfl, rfl, .inl (by decide), _, _, rfl, rfl, _, _, rfl, rfl, .inl ⟨_, rfl, _, _, rfl, rfl, (by show (0 : Int) < 2147483629; decide), ?_⟩⟩
        have b1 : (ds.map V.int).length < sizeLine := by rw [List.length_map]; exact Nat.lt_of_le_of_lt (Nat.le_trans hA.len (by omega : _ ≤ 4000)) (by decide)
        refine ⟨_, rfl, .inl ⟨rfl, _, SqL.of hA.at_⟩, _, rfl, .inl ⟨_, rfl, _, _, rfl, rfl, (by show (0 : Int) < 65536; decide), p, _, _, rfl, rfl, hA.at_, b1, ?_⟩⟩
        have hB := hA.more hp (z := (((r * 48271 + (0 + (i : Int) + 1) * 69621) % 2147483647 * 16807 + 11 * (0 + (i : Int)) + 5) % 2147483629) % 65536) (Int.emod_nonneg _ (by decide)) (Int.emod_lt_of_pos _ (by decide))
        have b2 : ((ds ++ [(((r * 48271 + (0 + (i : Int) + 1) * 69621) % 2147483647 * 16807 + 11 * (0 + (i : Int)) + 5) % 2147483629) % 65536]).map V.int).length < sizeLine := by rw [List.length_map]; exact Nat.lt_of_le_of_lt (Nat.le_trans hB.len (by omega : _ ≤ 4000)) (by decide)
        refine ⟨_, rfl, .inl ⟨rfl, _, SqL.of hB.at_⟩, _, rfl, _, _, rfl, rfl, (by constructor <;> decide), .inl ⟨_, rfl, _, _, rfl, rfl, (by show (0 : Int) < 32768; decide), p, _, _, rfl, rfl, hB.at_, b2, ?_⟩⟩
        exact ⟨_, _, _, _, _, rfl, (hB.more hp (z := (((r * 48271 + (0 + (i : Int) + 1) * 69621) % 2147483647 * 16807 + 11 * (0 + (i : Int)) + 5) % 2147483629) / 65536 % 32768) (Int.emod_nonneg _ (by decide)) (by have := Int.emod_lt_of_pos ((((r * 48271 + (0 + (i : Int) + 1) * 69621) % 2147483647 * 16807 + 11 * (0 + (i : Int)) + 5) % 2147483629) / 65536) (show (0 : Int) < 32768 by decide); omega)).mono (by omega)⟩
    · obtain ⟨ds, y2, y3, y4, y5, rfl, hA⟩ := hW
      exact ⟨_, rfl, q p ds H' hA.sm hp hA.at_ ⟨Nat.le_trans hA.len (by omega), hA.all⟩⟩
end

section
variable {P : Program} {w : World} {K : PySem.W.Frag} {mg : Str → Option Value} {base : Heap} {ea : Ea}
theorem sc_init : FnScope ["self", "at"] ["self", "at"] (defScope s_init) := ⟨rfl, rfl, rfl, by decide +kernel, rfl, by decide +kernel, by decide +kernel⟩
theorem ok_init (T : Txt K mg ea) : InitOk P w K mg base ea.fI := by
  obtain ⟨fd, F, b, t⟩ := T.init.ex
  refine ⟨fd, F.ok sc_init (fun vs H Q E h => ?_) (fun cdv A outer s H vs Q E hr h => ?_), b, t⟩
  · obtain ⟨a, C, n, rfl, _⟩ := h
    rfl
  · obtain ⟨a, C, n, rfl, To, Tn, hs, ha, q⟩ := h
    refine ⟨_, pss_cons (ps_ost (pv 0) (pv 1)) (pss_one (ps_if (pt_cmpR op_gt (pe_bits (pv 1)) pe_int (nomark _)) pss_never pss_nil)), ?_⟩
    refine ⟨_, rfl, _, rfl, a, C, rfl, To, Tn, .inl ⟨ha, fun dx n1 n2 => ?_⟩⟩
    refine ⟨_, rfl, n, rfl, _, _, rfl, rfl, _, rfl, ?_⟩
    rw [small_bits hs]
    exact iteF (q dx n1 n2)
end

end SH
set_option Elab.async false
set_option linter.all false
set_option maxRecDepth 100000
set_option maxHeartbeats 4000000
namespace SH
open PySem PySem.Spec PyProof.Rows L2
section
variable {P : Program} {w : World} {K : PySem.W.Frag} {mg : Str → Option Value} {base : Heap} {ea : Ea}
theorem cut_to_len {z : Str} {n : Nat} : (cutS z none (some (n : Int))).length ≤ n := by
  show ((z.cps.toList.drop (HT.sIx z.length 0 none)).take (HT.sIx z.length z.length (some (n : Int)) - HT.sIx z.length 0 none)).toArray.size ≤ n
  rw [HT.sIx_nat, HT.sIx_none, List.size_toArray, List.length_take]
  omega
theorem join_ones : ∀ {ys : List Str}, (∀ y ∈ ys, y.length = 1 ∧ IsLet y) → (ys.map (·.length)).sum = ys.length ∧ ((Txt.join "" ys).length = ys.length ∧ IsLet (Txt.join "" ys)) := by
  intro ys h
  have e : TL.tl (Txt.join "" ys) = (ys.map TL.tl).flatten := by
    rw [TL.join_eq, TL.tl_join]
    have : ∀ l : List (List Nat), TL.joinL (TL.tl "") l = l.flatten := fun l => by
      induction l with
      | nil => rfl
      | cons a r ih =>
        cases r with
        | nil => simp [TL.joinL]
        | cons b r =>
          show a ++ (TL.tl "" ++ TL.joinL (TL.tl "") (b :: r)) = _
          rw [ih]
          rfl
    exact this _
  have s1 : (ys.map (·.length)).sum = ys.length := by
    clear e
    induction ys with
    | nil => rfl
    | cons a r ih =>
      rw [List.map_cons, List.sum_cons, ih fun y m => h y (List.mem_cons_of_mem _ m), (h a (List.mem_cons_self ..)).1, List.length_cons]
      omega
  refine ⟨s1, ?_, ?_⟩
  · have := congrArg List.length e
    rw [List.length_flatten, List.map_map] at this
    have e2 : (List.length ∘ TL.tl : Str → Nat) = fun y => y.length := rfl
    rw [e2, s1] at this
    exact this
  · show (TL.tl (Txt.join "" ys)).all okc = true
    rw [e]
    refine List.all_eq_true.mpr fun c hc => ?_
    obtain ⟨l, hl, hc⟩ := List.mem_flatten.mp hc
    obtain ⟨y, hy, rfl⟩ := List.mem_map.mp hl
    exact List.all_eq_true.mp (h y hy).2 c hc
/-- a text of at most so many letters -/
def spText (K : PySem.W.Frag) : Sp := fun vs H Q _ => ∃ (a : Addr) (ns : List Int) (k : Int) (most : Nat), vs = [.ref a, .int k, .int most] ∧ SqL K H a (ns.map V.int) ∧ Dr ns ∧ 0 ≤ k ∧ k < 50000 ∧ most ≤ 100 ∧
  ∀ (z : Str) (H' : Hp), Same H H' → IsLet z → z.length ≤ most → Q (.str z) H'
theorem sc__law_text : FnScope ["draws", "k", "most", "letters", "size", "text", "j"] ["draws", "k", "most"] (defScope s__law_text) := ⟨rfl, rfl, rfl, by decide +kernel, rfl, by decide +kernel, by decide +kernel⟩
theorem ok__law_text (T : Txt K mg ea) (c__law_mix : Cl P w K mg base 1 "_law_mix" (spDraw K)) : Cl P w K mg base 2 "_law_text" (spText K) := by
  have nd := sc__law_text.nd
  refine cl_of T.d__law_text sc__law_text (fun vs H Q E h => ?_) (fun f cdv A outer s H vs Q E hr h => ?_)
  · obtain ⟨a, ns, k, most, rfl, _⟩ := h
    rfl
  · obtain ⟨a, ns, k, most, rfl, hS, hD, h0, h1, hm, q⟩ := h
    refine ⟨_, (pss_cons (ps_set (i := 3) nd rfl (.inr rfl) (pe_ix (ixl (K := K)) (pe_lst (pa_cons pe_str (pa_cons pe_str (pa_cons pe_str (pa_cons pe_str (pa_cons pe_str pa_nil)))))) (C8.pe_c c__law_mix hr (by decide) (by rfl) (pa_cons (pv 0) (pa_cons (pv 1) (pa_cons pe_int pa_nil)))) (fun _ _ => rfl)))
      (pss_cons (ps_set (i := 4) nd rfl (.inl rfl) (C8.pe_c c__law_mix hr (by decide) (by rfl) (pa_cons (pv 0) (pa_cons (pe_op op_add (pv 1) pe_int) (pa_cons (pe_op op_add (pv 2) pe_int) pa_nil)))))
      (pss_cons (ps_set (i := 5) nd rfl (.inl rfl) (pe_join pe_str (pe_lc (own := [("j", 6)]) (g := (gName 6)) rfl nd (pi_range1 rfl T.b_range (pa_cons (pv 4) pa_nil)) (blkOk_by (own := [("j", 6)]) (N := ["draws", "k", "most", "letters", "size", "text", "j"]) (sc := defScope s__law_text) (by decide +kernel)) (fun _ _ _ _ _ => (pg_name (i := 6) nd rfl (.inl rfl))) (fun _ _ _ _ _ => pts_nil) (fun _ _ _ _ _ => (pe_ix ix_str (pv 3) (C8.pe_c c__law_mix hr (by decide) (by rfl) (pa_cons (pv 0) (pa_cons (pe_op op_add (pe_op op_add (pv 1) pe_int) (pv 6)) (pa_cons (pe_callB call_len_str (by rfl) T.b_len PySem.boot_len (pa_cons (pv 3) pa_nil)) pa_nil)))) (fun _ _ => rfl))))))
      (pss_cons (ps_if (PW.pt (pw_and (pt_cmpR op_eq (C8.pe_c c__law_mix hr (by decide) (by rfl) (pa_cons (pv 0) (pa_cons (pe_op op_add (pv 1) pe_int) (pa_cons pe_int pa_nil)))) pe_int (nomark _)) (pw_and1 (pt_cmpR op_gt (pe_callB call_len_str (by rfl) T.b_len PySem.boot_len (pa_cons (pv 5) pa_nil)) pe_int (nomark _)))))
        (pss_one (ps_set (i := 5) nd rfl (.inl rfl) (pe_slice sl_str (pe_op op_add_str (pe_op op_add_str (pe_op op_add_str (pe_slice sl_str (pv 5) po_none (po_some pe_int)) (pe_slice sl_str (pv 5) po_none (po_some pe_int))) (pe_slice sl_str (pv 5) po_none (po_some pe_int))) (pv 5)) po_none (po_some (pv 2)))))
        pss_nil)
      (pss_one (ps_ret (pv 5))))))), ?_⟩
    refine ⟨(by show 5 ≤ sizeLine; decide), fun l nl => ?_⟩
    have s1 : Same H (upd H l (.lst ([("ab" : Str), "ab", "a", "aB ~", "abc"].map V.str))) := same_new nl
    refine ⟨_, rfl, _, rfl, a, ns, k, 5, rfl, s1.seq hS, hD, by omega, by omega, by omega, fun word w0 w1 => ?_⟩
    obtain ⟨x, hx, hxm⟩ := at_map V.str (xs := [("ab" : Str), "ab", "a", "aB ~", "abc"]) (i := word) w0 w1
    have hx1 : IsLet x ∧ 1 ≤ x.length ∧ x.length ≤ 4 := by
      simp only [List.mem_cons, List.not_mem_nil, or_false] at hxm
      rcases hxm with e | e | e | e | e <;> subst e <;> exact ⟨by decide, by decide, by decide⟩
    refine ⟨l, _, word, .str x, rfl, rfl, .inl (.inl upd_same), hx, ?_⟩
    refine ⟨_, rfl, _, rfl, _, _, rfl, rfl, _, rfl, _, _, rfl, rfl, a, ns, k + 1, (most : Int) + 1, rfl, s1.seq hS, hD, by omega, by omega, by omega, fun r r0 r1 => ?_⟩
    refine ⟨⟨_, rfl⟩, _, rfl, r, rfl, by omega, by omega, fun D nD => ?_⟩
    refine lc_w (walk_range (lo := 0) (n := r.toNat)) nD (by omega) (fun _ _ => trivial) (fun i acc _ => ∃ ys : List Str, acc = ys.map V.str ∧ ys.length = i ∧ ∀ y ∈ ys, y.length = 1 ∧ IsLet y) (fun _ _ => ⟨[], rfl, rfl, fun _ h => nomatch h⟩) (fun _ _ _ _ _ _ _ r => r) (fun i H x H' y => by rw [y.1]; exact Same.refl _) (fun i v acc H1 H2 Qn Qf hi sm y rr at_ kn kf => ?_) (fun acc H1 sm at_ _ rr => ?_)
    · obtain ⟨rfl, rfl⟩ := y
      obtain ⟨ys, rfl, yl, ya⟩ := rr
      have s2 := s1.trans sm
      refine ⟨rfl, _, rfl, _, rfl, _, rfl, _, _, rfl, rfl, _, rfl, _, _, rfl, rfl, _, rfl, x, rfl, Nat.le_trans hx1.2.2 (by decide), a, ns, k + 3 + (0 + (i : Int)), (x.length : Int), rfl, s2.seq hS, hD, by omega, by omega, by omega, fun g g0 g1 => ?_⟩
      refine ixs_let hx1.1 (Nat.le_trans hx1.2.2 (by decide)) g0 (by show g < (x.length : Int); exact g1) fun c hc => ?_
      exact kn _ _ (Same.refl _) ⟨ys ++ [⟨#[c]⟩], by rw [List.map_append]; rfl, by rw [List.length_append, yl]; rfl, fun y hy => by
        rcases List.mem_append.mp hy with m | m
        · exact ya y m
        · rw [List.mem_singleton.mp m]; exact ⟨rfl, let_one hc⟩⟩
    · obtain ⟨ys, rfl, yl, ya⟩ := rr
      obtain ⟨j1, j2, j3⟩ := join_ones ya
      have s2 := s1.trans sm
      refine ⟨"", D, ys, rfl, rfl, .inl (SqL.of at_), ?_, ?_⟩
      · rw [j1]
        show ys.length + ys.length * 0 ≤ 16777216
        omega
      generalize (Txt.join "" ys) = z at j2 j3 ⊢
      refine ⟨_, rfl, _, rfl, _, _, rfl, rfl, a, ns, k + 2, 5, rfl, s2.seq hS, hD, by omega, by omega, by omega, fun g g0 g1 => ?_⟩
      have zl : z.length ≤ most := by omega
      refine ⟨rfl, _, rfl, ite2 (fun e => ?_) (fun e => iteF ?_)⟩
      · refine ⟨_, rfl, z, rfl, Nat.le_trans zl (by have : most ≤ sizeLine := Nat.le_trans hm (by decide); omega), _, _, rfl, rfl, _, rfl, ite2 (fun e2 => ?_) (fun e2 => ?_)⟩
        · have zs : z.length ≤ sizeLine := Nat.le_trans (Nat.le_trans zl hm) (by decide)
          have c2 : (cutS z none (some 2)).length ≤ 2 := cut_to_len (n := 2)
          have cl : IsLet (cutS z none (some 2)) := cut_let j3 none (some 2)
          obtain ⟨u, hu⟩ : ∃ u, u = cutS z none (some 2) := ⟨_, rfl⟩
          rw [← hu] at c2 cl
          have b1 : (u ++ u).length ≤ 4 := by rw [len_app]; omega
          have b2 : (u ++ u ++ u).length ≤ 6 := by rw [len_app]; omega
          have b3 : (u ++ u ++ u ++ z).length ≤ 200 := by rw [len_app]; omega
          refine ⟨_, rfl, 2, rfl, z, rfl, zs, _, rfl, 2, rfl, z, rfl, zs, u, u, congrArg V.str hu.symm, congrArg V.str hu.symm, Nat.le_trans (by omega : u.length + u.length ≤ 4) (by decide), _, rfl, 2, rfl, z, rfl, zs, _, u, rfl, congrArg V.str hu.symm, Nat.le_trans (by omega : (u ++ u).length + u.length ≤ 6) (by decide), _, rfl, _, z, rfl, rfl, Nat.le_trans (by omega : (u ++ u ++ u).length + z.length ≤ 200) (by decide), _, rfl, most, rfl, _, rfl, Nat.le_trans b3 (by decide), ?_⟩
          exact ⟨_, rfl, q _ H1 s2 (cut_let (let_app (let_app (let_app cl cl) cl) j3) none (some most)) cut_to_len⟩
        · exact ⟨_, rfl, q z H1 s2 j3 zl⟩
      · exact ⟨_, rfl, q z H1 s2 j3 zl⟩
end

theorem hs_snoc {m : Nat} {h : List (Int × Str)} (a : IsHs m h) {n : Int} {z : Str} (lt : ∀ q ∈ h, q.1 < n) (n0 : 0 ≤ n) (n1 : n ≤ 99) (hz : IsLet z) (hl : z.length ≤ m) : IsHs m (h ++ [(n, z)]) := by
  refine ⟨?_, fun q hq => ?_, fun q hq => ?_⟩
  · rw [List.map_append, List.pairwise_append]
    refine ⟨a.asc, by simp, fun x hx y hy => ?_⟩
    obtain ⟨q, hq, rfl⟩ := List.mem_map.mp hx
    simp at hy
    subst hy
    exact lt q hq
  · rcases List.mem_append.mp hq with m1 | m1
    · exact a.num q m1
    · rw [List.mem_singleton.mp m1]; exact ⟨n0, n1⟩
  · rcases List.mem_append.mp hq with m1 | m1
    · exact a.txt q m1
    · rw [List.mem_singleton.mp m1]; exact ⟨hz, hl⟩

section
variable {P : Program} {w : World} {K : PySem.W.Frag} {mg : Str → Option Value} {base : Heap} {ea : Ea}
/-- a house drawn -/
def spHouse (K : PySem.W.Frag) : Sp := fun vs H Q _ => ∃ (a : Addr) (ns : List Int) (k : Int) (most : Nat), vs = [.ref a, .int k, .int most] ∧ SqL K H a (ns.map V.int) ∧ Dr ns ∧ 0 ≤ k ∧ k < 10000 ∧ most ≤ 40 ∧
  ∀ (p : Addr) (L : PL) (H' : Hp), Same H H' → H p = none → H' p = some (.lst (refs L)) → PairsAt K H' L → L.length ≤ 8 → IsHs most (L.map (·.2)) → Q (.ref p) H'
/-- the house so far -/
structure HsSo (K : PySem.W.Frag) (H H' : Hp) (p : Addr) (i most : Nat) (num : Int) (L : PL) : Prop where
  sm : Same H H'
  at_ : H' p = some (.lst (refs L))
  ps : PairsAt K H' L
  len : L.length = i
  hs : IsHs most (L.map (·.2))
  le : ∀ q ∈ L, q.2.1 ≤ num
  n0 : 0 ≤ num
  n1 : num ≤ 12 * (i : Int)
theorem HsSo.same {H H' H2 : Hp} {p : Addr} {i most : Nat} {num : Int} {L : PL} (h : HsSo K H H' p i most num L) (e : Same H' H2) : HsSo K H H2 p i most num L :=
  ⟨h.sm.trans e, e _ _ h.at_, h.ps.same e, h.len, h.hs, h.le, h.n0, h.n1⟩
theorem pairs_put {H : Hp} {p : Addr} {L : PL} {l : List V} {o : HO} (h : H p = some (.lst l)) (a : PairsAt K H L) : PairsAt K (upd H p o) L := fun q hq => but_tup (l := l) h but_upd (a q hq)
theorem sc__law_house : FnScope ["draws", "k", "most", "house", "number", "j", "text"] ["draws", "k", "most"] (defScope s__law_house) := ⟨rfl, rfl, rfl, by decide +kernel, rfl, by decide +kernel, by decide +kernel⟩
theorem ok__law_house (T : Txt K mg ea) (c__law_mix : Cl P w K mg base 1 "_law_mix" (spDraw K)) (c__law_text : Cl P w K mg base 2 "_law_text" (spText K)) : Cl P w K mg base 3 "_law_house" (spHouse K) := by
  have nd := sc__law_house.nd
  refine cl_of T.d__law_house sc__law_house (fun vs H Q E h => ?_) (fun f cdv A outer s H vs Q E hr h => ?_)
  · obtain ⟨a, ns, k, most, rfl, _⟩ := h
    rfl
  · obtain ⟨a, ns, k, most, rfl, hS, hD, h0, h1, ho, q⟩ := h
    refine ⟨_, (pss_cons (ps_set (i := 3) nd rfl (.inl rfl) (pe_lst pa_nil))
      (pss_cons (ps_set (i := 4) nd rfl (.inl rfl) pe_int)
      (pss_cons (ps_for PassesOwn.never rfl (pi_range1 rfl T.b_range (pa_cons (pe_ix (ixl (K := K)) (pe_lst (pa_cons (C8.pe_c c__law_mix hr (by decide) (by rfl) (pa_cons (pv 0) (pa_cons (pv 1) (pa_cons pe_int pa_nil)))) (pa_cons (C8.pe_c c__law_mix hr (by decide) (by rfl) (pa_cons (pv 0) (pa_cons (pv 1) (pa_cons pe_int pa_nil)))) pa_nil))) (pe_callTy call_int1 (by rfl) T.b_int (by decide +kernel) (pa_cons (pe_cmpR op_eq (C8.pe_c c__law_mix hr (by decide) (by rfl) (pa_cons (pv 0) (pa_cons (pe_op op_add (pv 1) pe_int) (pa_cons pe_int pa_nil)))) pe_int (nomark _)) pa_nil)) (fun _ _ => rfl)) pa_nil)) (pg_name (i := 5) nd rfl (.inl rfl))
        (pss_cons (ps_set (i := 4) nd rfl (.inl rfl) (pe_op op_add (pe_op op_add (pv 4) (C8.pe_c c__law_mix hr (by decide) (by rfl) (pa_cons (pv 0) (pa_cons (pe_op op_add (pe_op op_add (pv 1) pe_int) (pv 5)) (pa_cons pe_int pa_nil))))) (pe_callTy call_int1 (by rfl) T.b_int (by decide +kernel) (pa_cons (pe_cmpR op_gt (pv 5) pe_int (nomark _)) pa_nil))))
          (pss_cons (ps_set (i := 6) nd rfl (.inl rfl) (C8.pe_c c__law_text hr (by decide) (by rfl) (pa_cons (pv 0) (pa_cons (pe_op op_add (pe_op op_add (pv 1) pe_int) (pe_op op_mul pe_int (pv 5))) (pa_cons (pv 2) pa_nil)))))
          (C8.pss_cut (ps_if (PW.pt (pw_and (pt_cmpR op_gt (pv 5) pe_int (nomark _)) (pw_and1 (pt_cmpR op_eq (C8.pe_c c__law_mix hr (by decide) (by rfl) (pa_cons (pv 0) (pa_cons (pe_op op_add (pe_op op_add (pv 1) pe_int) (pv 5)) (pa_cons pe_int pa_nil)))) pe_int (nomark _)))))
            (pss_one (ps_set (i := 6) nd rfl (.inl rfl) (pe_ix (ixt (K := K)) (pe_ix (ixl (K := K)) (pv 3) (pe_op op_sub (pv 5) pe_int) (fun _ _ => rfl)) pe_int (fun _ _ => rfl))))
            pss_nil)
          (pss_one (ps_expr (pe_bm PySem.F.plainAttrs_list PySem.F.slot_list_append PySem.F.type_list_append mt_append (pv 3) (pa_cons (pe_tup (pa_cons (pv 4) (pa_cons (pv 6) pa_nil))) pa_nil))))))))
      (pss_one (ps_ret (pv 3)))))), ?_⟩
    refine ⟨Nat.zero_le _, fun p hp => ?_⟩
    have sm0 : Same H (upd H p (.lst [])) := same_new hp
    refine ⟨_, rfl, _, rfl, a, ns, k, 4, rfl, sm0.seq hS, hD, by omega, by omega, by omega, fun r1 u0 u1 => ?_⟩
    refine ⟨_, rfl, _, rfl, a, ns, k, 9, rfl, sm0.seq hS, hD, by omega, by omega, by omega, fun r2 v0 v1 => ?_⟩
    refine ⟨(by show 2 ≤ sizeLine; decide), fun l nl => ?_⟩
    have s1 : Same H (upd (upd H p (.lst [])) l (.lst [.int r1, .int r2])) := sm0.trans (same_new nl)
    have nl0 : H l = none := sm0.free nl
    refine ⟨_, rfl, _, rfl, _, _, rfl, rfl, a, ns, k + 1, 5, rfl, s1.seq hS, hD, by omega, by omega, by omega, fun r3 _ _ => ?_⟩
    obtain ⟨r, r0, r8, hat⟩ : ∃ r : Int, 0 ≤ r ∧ r ≤ 8 ∧ atI [V.int r1, V.int r2] (if decide (V.int r3 = V.int 2) = true then 1 else 0) = some (.int r) := by
      split
      · exact ⟨r2, v0, by omega, rfl⟩
      · exact ⟨r1, u0, by omega, rfl⟩
    refine ⟨rfl, .inr ⟨_, rfl, l, _, _, _, rfl, rfl, SqL.of upd_same, hat, r, rfl, by omega, by omega, ?_⟩⟩
    refine for_range (lo := 0) (n := r.toNat) (fun i σ H' => ∃ (L : PL) (num : Int) (y5 y6 : Option V), σ = [some (.ref a), some (.int k), some (.int most), some (.ref p), some (.int num), y5, y6] ∧ HsSo K H H' p i most num L)
      ⟨[], 0, none, none, rfl, s1, (by rw [upd_ne (ne_of_none upd_same nl)]; exact upd_same), (fun q hq => by cases hq), rfl, ⟨List.Pairwise.nil, (fun q hq => by cases hq), (fun q hq => by cases hq)⟩, (fun q hq => by cases hq), by omega, by omega⟩ (fun i σ H' hi hW => ?_) (fun σ H' hW => ?_)
    · obtain ⟨L, num, y5, y6, rfl, hA⟩ := hW
      have n0 := hA.n0
      have n1 := hA.n1
      refine ⟨_, rfl, _, rfl, _, rfl, _, _, rfl, rfl, _, rfl, _, _, rfl, rfl, a, ns, k + 2 + (0 + (i : Int)), 12, rfl, hA.sm.seq hS, hD, by omega, by omega, by omega, fun g g0 g1 => ?_⟩
      refine ⟨_, _, rfl, rfl, _, rfl, _, _, rfl, rfl, .inr ⟨_, rfl, _, _, rfl, rfl, ?_⟩⟩
      obtain ⟨b, hb, b0, b1, bp⟩ : ∃ b : Int, b = (if decide ((0 + (i : Int)) > 0) = true then 1 else 0) ∧ 0 ≤ b ∧ b ≤ 1 ∧ (0 < i → b = 1) := by
        refine ⟨_, rfl, ?_⟩
        split
        · exact ⟨by omega, by omega, fun _ => rfl⟩
        · rename_i h
          exact ⟨by omega, by omega, fun h2 => absurd (decide_eq_true (by omega)) h⟩
      rw [← hb]
      refine ⟨_, rfl, _, rfl, _, _, rfl, rfl, _, rfl, _, _, rfl, rfl, .inl (by decide), _, _, rfl, rfl, _, rfl, a, ns, k + 12 + 17 * (0 + (i : Int)), most, rfl, hA.sm.seq hS, hD, by omega, by omega, by omega, fun z H2 sm2 hz hl => ?_⟩
      have hA2 := hA.same sm2
      refine ⟨fun σ H3 => H3 = H2 ∧ ∃ x : Str, IsLet x ∧ x.length ≤ most ∧ σ = [some (.ref a), some (.int k), some (.int most), some (.ref p), some (.int (num + g + b)), some (.int (0 + (i : Int))), some (.str x)], ?_, ?_⟩
      · refine ⟨_, rfl, _, _, rfl, rfl, _, rfl, ite2 (fun e => ?_) (fun e => iteF ⟨rfl, z, hz, hl, rfl⟩)⟩
        have e' := of_decide_eq_true e
        refine ⟨_, rfl, _, rfl, _, _, rfl, rfl, _, rfl, _, _, rfl, rfl, a, ns, k + 3 + (0 + (i : Int)), 7, rfl, hA2.sm.seq hS, hD, by omega, by omega, by omega, fun r5 _ _ => ?_⟩
        refine ⟨rfl, _, rfl, ite2 (fun e2 => ?_) (fun e2 => ⟨rfl, z, hz, hl, rfl⟩)⟩
        obtain ⟨t, ht, hm2⟩ := at_map (fun q : Addr × Int × Str => V.ref q.1) (xs := L) (i := (0 + (i : Int)) - 1) (by omega) (by have := hA.len; omega)
        refine ⟨_, rfl, _, rfl, _, _, rfl, rfl, p, _, _, _, rfl, rfl, SqL.of hA2.at_, ht, _, _, _, _, rfl, rfl, hA2.ps t hm2, (show atI [V.int t.2.1, V.str t.2.2] 1 = some (.str t.2.2) from rfl), rfl, t.2.2, ?_⟩
        have := hA.hs.txt t.2 (List.mem_map_of_mem hm2)
        exact ⟨this.1, this.2, rfl⟩
      · rintro σ' H3 ⟨rfl, x, hx, hxl, rfl⟩
        refine ⟨_, rfl, .inl ⟨rfl, _, SqL.of hA2.at_⟩, _, rfl, _, rfl, (by show 2 ≤ sizeLine; decide), fun t ht => ?_⟩
        have pt : p ≠ t := ne_of_none hA2.at_ ht
        have at2 : (upd H3 t (.tup [.int (num + g + b), .str x])) p = some (.lst (refs L)) := by rw [upd_ne pt]; exact hA2.at_
        refine ⟨p, _, _, rfl, rfl, at2, ?_, ?_⟩
        · show (L.map _).length < sizeLine
          rw [List.length_map, hA2.len]; exact Nat.lt_of_le_of_lt (by omega : i ≤ 1000) (by decide)
        have sm3 : Same H3 (upd H3 t (.tup [.int (num + g + b), .str x])) := same_new ht
        have smp : ∀ o, Same H (upd (upd H3 t (.tup [.int (num + g + b), .str x])) p o) := fun o => same_mut (hA2.sm.trans sm3) hp
        have ltn : ∀ q ∈ L, q.2.1 < num + g + b := fun q hq => by
          have h := hA.le q hq
          have : 0 < i := by
            have := hA.len
            have := List.length_pos_of_mem hq
            omega
          have := bp this
          omega
        refine ⟨L ++ [(t, num + g + b, x)], num + g + b, _, _, rfl, smp _, ?_, ?_, ?_, ?_, ?_, by omega, by omega⟩
        · rw [upd_same]; show _ = some (HO.lst (List.map _ _)); rw [List.map_append]; rfl
        · refine pairs_put at2 fun q hq => ?_
          rcases List.mem_append.mp hq with m1 | m1
          · exact same_tup sm3 (hA2.ps q m1)
          · rw [List.mem_singleton.mp m1]; exact .inl (.inl upd_same)
        · rw [List.length_append, hA.len]; rfl
        · rw [List.map_append]
          exact hs_snoc hA.hs (fun q hq => by obtain ⟨y, hy, rfl⟩ := List.mem_map.mp hq; exact ltn y hy) (by omega) (by omega) hx hxl
        · intro q hq
          rcases List.mem_append.mp hq with m1 | m1
          · have := ltn q m1; omega
          · rw [List.mem_singleton.mp m1]; exact Int.le_refl _
    · obtain ⟨L, num, y5, y6, rfl, hA⟩ := hW
      exact ⟨_, rfl, q p L H' hA.sm hp hA.at_ hA.ps (by have := hA.len; omega) hA.hs⟩
end

end SH
set_option Elab.async false
set_option linter.all false
set_option maxRecDepth 100000
set_option maxHeartbeats 4000000
namespace SH
open PySem PySem.Spec PyProof.Rows L2
section
variable {P : Program} {w : World} {K : PySem.W.Frag} {mg : Str → Option Value} {base : Heap} {ea : Ea}
def spTextOf (K : PySem.W.Frag) (ea : Ea) : Sp := fun vs H Q E => ∃ (a : Addr) (L : PL) (n : Int), vs = [.ref a, .int n] ∧ HsAt K H a L ∧ Small n ∧ (∀ z, lk n (L.map (·.2)) = some z → Q (.str z) H) ∧ (lk n (L.map (·.2)) = none → Errs E H ea.c_NoText n)
theorem sc_text_of : FnScope ["house", "number", "other", "text"] ["house", "number"] (defScope s_text_of) := ⟨rfl, rfl, rfl, by decide +kernel, rfl, by decide +kernel, by decide +kernel⟩
theorem ok_text_of (T : Txt K mg ea) : ClX P w K mg base 3 "text_of" (spTextOf K ea) := by
  have nd := sc_text_of.nd
  refine clx_of T.d_text_of sc_text_of (fun vs H Q E h => ?_) (fun f cdv A outer s H vs Q E hr h => ?_)
  · obtain ⟨a, L, n, rfl, _⟩ := h
    rfl
  · obtain ⟨a, L, n, rfl, hA, hs, q, e⟩ := h
    refine ⟨_, (pss_cons (ps_for (passes_of rfl) rfl (pi_listK (K := K) (pv 0)) (pg_tup rfl (pgs_cons (pg_name (i := 2) nd rfl (.inl rfl)) (pgs_cons (pg_name (i := 3) nd rfl (.inl rfl)) pgs_nil)))
        (pss_one (ps_if (pt_cmpR op_eq (pv 2) (pv 1) (nomark _))
            (pss_one (ps_ret (pv 3)))
            pss_nil)))
      (pss_one (ps_raise rfl (takes_of rfl rfl rfl rfl) (pmk_at T.x_NoText (ok_init T) hr (by decide) (by rfl) (pa_cons (pv 1) pa_nil))))), ?_⟩
    refine ⟨_, rfl, a, rfl, ⟨_, hA.1⟩, ?_⟩
    refine for_list (K := K) (a := a) (xs := refs L) (fun i σ H' => ∃ (y2 y3 : Option V), σ = [some (.ref a), some (.int n), y2, y3] ∧ H' = H ∧ lk n (L.map (·.2)) = lk n ((L.drop i).map (·.2)))
      ⟨none, none, rfl, rfl, rfl⟩ (fun i σ H' _ hW => ?_) (fun i x σ H' hx hW => ?_) (fun σ H' hW => ?_)
    · obtain ⟨y2, y3, rfl, rfl, _⟩ := hW
      exact hA.1
    · obtain ⟨y2, y3, rfl, rfl, ef⟩ := hW
      obtain ⟨t, ht, tm, rfl⟩ := refs_at hx
      rw [drop_at ht] at ef
      have ef2 : lk n (L.map (·.2)) = if t.2.1 = n then some t.2.2 else lk n ((L.drop (i + 1)).map (·.2)) := ef
      refine ⟨_, _, rfl, hA.2 t tm, rfl, _, _, rfl, _, _, rfl, rfl, ?_⟩
      refine ⟨_, rfl, _, rfl, rfl, _, rfl, ite2 (fun e2 => ?_) (fun e2 => ?_)⟩
      · have e3 : t.2.1 = n := by have := of_decide_eq_true e2; injection this
        rw [if_pos e3] at ef2
        exact ⟨_, rfl, q _ ef2⟩
      · have e3 : ¬ t.2.1 = n := fun z => e2 (decide_eq_true (by rw [z]))
        rw [if_neg e3] at ef2
        exact ⟨_, _, rfl, rfl, ef2⟩
    · obtain ⟨y2, y3, rfl, rfl, ef⟩ := hW
      rw [List.drop_of_length_le (by rw [refs_len]; exact Nat.le_refl _)] at ef
      refine ⟨_, rfl, ?_⟩
      exact mk_at T.x_NoText.o T.x_NoText.no hs (e ef)
end

section
variable {P : Program} {w : World} {K : PySem.W.Frag} {mg : Str → Option Value} {base : Heap} {ea : Ea}
theorem sc_places : FnScope ["house", "word", "size", "found", "number", "text", "start"] ["house", "word"] (defScope s_places) := ⟨rfl, rfl, rfl, by decide +kernel, rfl, by decide +kernel, by decide +kernel⟩
theorem ok_places (T : Txt K mg ea) : Cl P w K mg base 1 "places" (spPlaces K) := by
  have nd := sc_places.nd
  refine cl_of T.d_places sc_places (fun vs H Q E h => ?_) (fun f cdv A outer s H vs Q E hr h => ?_)
  · obtain ⟨a, L, wd, rfl, _⟩ := h
    rfl
  · obtain ⟨a, L, wd, rfl, hA, hl, hz, wl, q⟩ := h
    refine ⟨_, (pss_cons (ps_set (i := 2) nd rfl (.inl rfl) (pe_callB call_len_str (by rfl) T.b_len PySem.boot_len (pa_cons (pv 1) pa_nil)))
      (pss_cons (ps_set (i := 3) nd rfl (.inl rfl) (pe_lst pa_nil))
      (pss_cons (ps_for PassesOwn.never rfl (pi_listK (K := K) (pv 0)) (pg_tup rfl (pgs_cons (pg_name (i := 4) nd rfl (.inl rfl)) (pgs_cons (pg_name (i := 5) nd rfl (.inl rfl)) pgs_nil)))
        (pss_one (ps_for PassesOwn.never rfl (pi_range1 rfl T.b_range (pa_cons (pe_op op_add (pe_op op_sub (pe_callB call_len_str (by rfl) T.b_len PySem.boot_len (pa_cons (pv 5) pa_nil)) (pv 2)) pe_int) pa_nil)) (pg_name (i := 6) nd rfl (.inl rfl))
            (pss_one (ps_if (pt_cmpR op_eq (pe_slice sl_str (pv 5) (po_some (pv 6)) (po_some (pe_op op_add (pv 6) (pv 2)))) (pv 1) (nomark _))
                (pss_one (ps_expr (pe_bm PySem.F.plainAttrs_list PySem.F.slot_list_append PySem.F.type_list_append mt_append (pv 3) (pa_cons (pe_tup (pa_cons (pv 4) (pa_cons (pv 6) pa_nil))) pa_nil))))
                pss_nil)))))
      (pss_one (ps_ret (pv 3)))))), ?_⟩
    have rl : (refs L).length = L.length := refs_len L
    have big : ∀ i, (plc ((L.map (·.2)).take i) wd).length ≤ 50500 := fun i => by
      refine Nat.le_trans (plc_len (m := 100) fun q hq => ?_) (by have := List.length_take_le' i (L.map (·.2)); rw [List.length_map] at this; omega)
      obtain ⟨z, hz2, rfl⟩ := List.mem_map.mp (List.mem_of_mem_take hq)
      exact hz z hz2
    refine ⟨_, rfl, wd, rfl, Nat.le_trans wl (by decide), ?_⟩
    refine ⟨Nat.zero_le _, fun D nD => ?_⟩
    have sm0 : Same H (upd H D (.lst [])) := same_new nD
    refine ⟨_, rfl, a, rfl, ⟨_, sm0.seq hA.1⟩, ?_⟩
    refine for_it (walk_list (K := K) (a := a) (xs := refs L)) (fun i σ H' => ∃ (R : QT) (y4 y5 y6 : Option V), σ = [some (.ref a), some (.str wd), some (.int (wd.length : Int)), some (.ref D), y4, y5, y6] ∧ Same H H' ∧ H' D = some (.lst (qrefs R)) ∧ QAt K H' R ∧ R.map (·.2) = plc ((L.map (·.2)).take i) wd)
      ⟨[], none, none, none, rfl, sm0, upd_same, (fun z m => nomatch m), rfl⟩ (fun i σ H' _ hW => ?_) (fun i x σ H1 H2 hi hW y => ?_) (fun σ H1 hW => ?_)
    · obtain ⟨R, y4, y5, y6, rfl, sm, _⟩ := hW
      exact sm.seq hA.1
    · obtain ⟨R, y4, y5, y6, rfl, sm, at_, za, ze⟩ := hW
      obtain ⟨rfl, hx⟩ := y
      obtain ⟨t, ht, tm, rfl⟩ := refs_get hx
      have tl := hz t tm
      have ht2 : (L.map (·.2))[i]? = some t.2 := by rw [List.getElem?_map, ht]; rfl
      have tk := take_snoc ht2
      refine ⟨_, _, rfl, same_tup sm (hA.2 t tm), rfl, _, _, rfl, _, _, rfl, rfl, ?_⟩
      refine ⟨_, rfl, t.2.2, rfl, Nat.le_trans tl (by decide), _, rfl, _, _, rfl, rfl, _, _, rfl, rfl, _, rfl, by omega, by omega, ?_⟩
      have en : ((t.2.2.length : Int) - (wd.length : Int) + 1).toNat = t.2.2.length + 1 - wd.length := by omega
      refine for_range (lo := 0) (n := ((t.2.2.length : Int) - (wd.length : Int) + 1).toNat) (fun j σ H' => ∃ (R : QT) (y6 : Option V), σ = [some (.ref a), some (.str wd), some (.int (wd.length : Int)), some (.ref D), some (.int t.2.1), some (.str t.2.2), y6] ∧ Same H H' ∧ H' D = some (.lst (qrefs R)) ∧ QAt K H' R ∧ R.map (·.2) = plc ((L.map (·.2)).take i) wd ++ ((List.range j).filter (standsP wd t.2.2)).map fun s : Nat => (t.2.1, (s : Int)))
        ⟨R, y6, rfl, sm, at_, za, by rw [ze]; simp⟩ (fun j σ H2 hj hW => ?_) (fun σ H1 hW => ?_)
      · obtain ⟨R, y6, rfl, sm, at_, za, ze⟩ := hW
        have e0 : (0 : Int) + (j : Int) = (j : Int) := Int.zero_add _
        rw [e0]
        rw [en] at hj
        refine ⟨_, rfl, _, rfl, j, rfl, _, rfl, _, rfl, _, _, rfl, rfl, _, rfl, t.2.2, rfl, Nat.le_trans tl (by decide), _, rfl, rfl, _, rfl, ?_⟩
        have cv : decide (V.str (cutS t.2.2 (some (j : Int)) (some ((j : Int) + (wd.length : Int)))) = V.str wd) = standsP wd t.2.2 j := decide_eq_decide.mpr (by
          rw [← cut_mid (by omega)]
          exact ⟨fun h => by rw [V.str.inj h], fun h => by rw [str_ext h]⟩)
        rw [cv]
        have sn : (List.range (j + 1)).filter (standsP wd t.2.2) = (List.range j).filter (standsP wd t.2.2) ++ if standsP wd t.2.2 j = true then [j] else [] := by
          rw [List.range_succ, List.filter_append]
          congr 1
          by_cases c : standsP wd t.2.2 j = true
          · rw [if_pos c, List.filter_cons_of_pos c]; rfl
          · rw [if_neg c, List.filter_cons_of_neg c]; rfl
        refine ite2 (fun e => ?_) (fun e => ?_)
        · refine ⟨_, rfl, .inl ⟨rfl, _, SqL.of at_⟩, _, rfl, _, rfl, (by show 2 ≤ sizeLine; decide), fun u nu => ?_⟩
          have s2 := same_new (o := .tup [.int t.2.1, .int (j : Int)]) nu
          have at2 := s2 _ _ at_
          have zl : R.length ≤ 60000 := by
            have e := congrArg List.length ze
            rw [List.length_map, List.length_append, List.length_map] at e
            have b1 := List.length_filter_le (standsP wd t.2.2) (List.range j)
            rw [List.length_range] at b1
            have := big i
            omega
          refine ⟨D, _, _, rfl, rfl, at2, ?_, R ++ [(u, t.2.1, (j : Int))], _, rfl, same_mut (sm.trans s2) nD, ?_, ?_, ?_⟩
          · rw [qrefs_len]
            exact Nat.lt_of_le_of_lt zl (by decide)
          · rw [upd_same]
            show _ = some (HO.lst (List.map _ _))
            rw [List.map_append]
            rfl
          · refine QAt.put (l := qrefs R) (fun y hy => ?_) at2
            rcases List.mem_append.mp hy with m | m
            · exact same_tup s2 (za y m)
            · rw [List.mem_singleton.mp m]
              exact .inl (.inl upd_same)
          · rw [List.map_append, ze, sn, if_pos e, List.map_append, List.append_assoc]
            rfl
        · refine ⟨R, _, rfl, sm, at_, za, ?_⟩
          rw [ze, sn, if_neg e, List.append_nil]
      · obtain ⟨R, y6, rfl, sm, at_, za, ze⟩ := hW
        refine ⟨R, _, _, _, rfl, sm, at_, za, ?_⟩
        rw [ze, tk, plc_snoc, en, plcOf_cut]
    · obtain ⟨R, y4, y5, y6, rfl, sm, at_, za, ze⟩ := hW
      rw [List.take_of_length_le (by rw [List.length_map, rl]; exact Nat.le_refl _)] at ze
      exact ⟨_, rfl, q D R H1 sm nD at_ za ze⟩
end

section
variable {P : Program} {w : World} {K : PySem.W.Frag} {mg : Str → Option Value} {base : Heap} {ea : Ea}
def spCountW (K : PySem.W.Frag) : Sp := fun vs H Q _ => ∃ (a : Addr) (L : PL) (wd : Str), vs = [.ref a, .str wd] ∧ HsAt K H a L ∧ L.length ≤ 500 ∧ (∀ q ∈ L, q.2.2.length ≤ 100) ∧ wd.length ≤ 1000 ∧ ∀ (H' : Hp), Same H H' → Q (.int ((plc (L.map (·.2)) wd).length : Nat)) H'
theorem sc_count : FnScope ["house", "word"] ["house", "word"] (defScope s_count) := ⟨rfl, rfl, rfl, by decide +kernel, rfl, by decide +kernel, by decide +kernel⟩
theorem ok_count (T : Txt K mg ea) (c_places : Cl P w K mg base 1 "places" (spPlaces K)) : Cl P w K mg base 2 "count" (spCountW K) := by
  have nd := sc_count.nd
  refine cl_of T.d_count sc_count (fun vs H Q E h => ?_) (fun f cdv A outer s H vs Q E hr h => ?_)
  · obtain ⟨a, L, wd, rfl, _⟩ := h
    rfl
  · obtain ⟨a, L, wd, rfl, hA, hl, hz, wl, q⟩ := h
    refine ⟨_, (pss_one (ps_ret (pe_callB call_len_seq (by rfl) T.b_len PySem.boot_len (pa_cons (C8.pe_c c_places hr (by decide) (by rfl) (pa_cons (pv 0) (pa_cons (pv 1) pa_nil))) pa_nil)))), ?_⟩
    refine ⟨_, rfl, _, rfl, a, L, wd, rfl, hA, hl, hz, wl, fun l R H' sm nl at_ za ze => ?_⟩
    refine ⟨_, _, rfl, .inl (SqL.of at_), ?_⟩
    have := q H' sm
    rw [← ze, List.length_map] at this
    rw [qrefs_len]
    exact this
end

end SH
set_option Elab.async false
set_option linter.all false
set_option maxRecDepth 100000
set_option maxHeartbeats 4000000
namespace SH
open PySem PySem.Spec PyProof.Rows L2
section
variable {P : Program} {w : World} {K : PySem.W.Frag} {mg : Str → Option Value} {base : Heap} {ea : Ea}
/-- a text that has such a letter -/
def spTextL (K : PySem.W.Frag) (ea : Ea) : Sp := fun vs H Q E => ∃ (a : Addr) (L : PL) (n i : Int), vs = [.ref a, .int n, .int i] ∧ HsAt K H a L ∧ (∀ q ∈ L, q.2.2.length ≤ 40) ∧ Small n ∧ Small i ∧ (lk n (L.map (·.2)) = none → Errs E H ea.c_NoText n) ∧
  ∀ z, lk n (L.map (·.2)) = some z → (¬ (0 ≤ i ∧ i < z.length) → Errs E H ea.c_OutOfRange i) ∧ (0 ≤ i ∧ i < z.length → Q (.str z) H)
theorem lk_len {L : PL} {n : Int} {z : Str} (hz : ∀ q ∈ L, q.2.2.length ≤ 40) (h : lk n (L.map (·.2)) = some z) : z.length ≤ 40 := by
  obtain ⟨y, hy, e⟩ := List.mem_map.mp (lk_mem h)
  rw [← show y.2.2 = z from congrArg Prod.snd e]
  exact hz y hy
theorem sc_text_with_letter : FnScope ["house", "number", "index", "text"] ["house", "number", "index"] (defScope s_text_with_letter) := ⟨rfl, rfl, rfl, by decide +kernel, rfl, by decide +kernel, by decide +kernel⟩
theorem ok_text_with_letter (T : Txt K mg ea) (c_text_of : ClX P w K mg base 3 "text_of" (spTextOf K ea)) : ClX P w K mg base 4 "text_with_letter" (spTextL K ea) := by
  have nd := sc_text_with_letter.nd
  refine clx_of T.d_text_with_letter sc_text_with_letter (fun vs H Q E h => ?_) (fun f cdv A outer s H vs Q E hr h => ?_)
  · obtain ⟨a, L, n, i, rfl, _⟩ := h
    rfl
  · obtain ⟨a, L, n, i, rfl, hA, hz, hn, hi, e1, q⟩ := h
    refine ⟨_, (pss_cons (ps_set (i := 3) nd rfl (.inl rfl) (pe_cx c_text_of hr (by decide) (fun σ => passAt (takes_of rfl rfl rfl rfl) σ) (by rfl) (pa_cons (pv 0) (pa_cons (pv 1) pa_nil))))
      (pss_cons (ps_if (pt_not (pt_chain op_le op_lt pe_int (pv 2) (pe_callB call_len_str (by rfl) T.b_len PySem.boot_len (pa_cons (pv 3) pa_nil))))
        (pss_one (ps_raise rfl (takes_of rfl rfl rfl rfl) (pmk_at T.x_OutOfRange (ok_init T) hr (by decide) (by rfl) (pa_cons (pv 2) pa_nil))))
        pss_nil)
      (pss_one (ps_ret (pv 3))))), ?_⟩
    refine ⟨_, rfl, _, rfl, a, L, n, rfl, hA, hn, fun z hzz => ?_, fun e => e1 e⟩
    obtain ⟨q1, q2⟩ := q z hzz
    have zl := lk_len hz hzz
    refine ⟨_, rfl, _, _, rfl, rfl, _, rfl, ?_⟩
    by_cases c0 : 0 ≤ i
    · rw [decide_eq_true c0]
      refine ⟨_, rfl, z, rfl, Nat.le_trans zl (by decide), _, _, rfl, rfl, _, rfl, ?_⟩
      by_cases c1 : i < (z.length : Int)
      · rw [decide_eq_true c1]
        exact iteF ⟨_, rfl, q2 ⟨c0, c1⟩⟩
      · rw [decide_eq_false c1]
        refine iteT ⟨_, rfl, ?_⟩
        exact mk_at T.x_OutOfRange.o T.x_OutOfRange.no hi (q1 fun y => c1 y.2)
    · rw [decide_eq_false c0]
      refine iteF ⟨_, rfl, iteT ⟨_, rfl, ?_⟩⟩
      exact mk_at T.x_OutOfRange.o T.x_OutOfRange.no hi (q1 fun y => c0 y.1)
/-- the stretches of a size over a letter: new pairs in a new list -/
def spOver (K : PySem.W.Frag) : Sp := fun vs H Q _ => ∃ (z : Str) (i m : Nat), vs = [.str z, .int i, .int m] ∧ z.length ≤ 40 ∧ i < z.length ∧ m ≤ z.length ∧
  ∀ (l : Addr) (R : QT) (H' : Hp), Same H H' → H' l = some (.lst (qrefs R)) → QAt K H' R → (∃ f c : Nat, f = i + 1 - m ∧ f + c = (if i ≤ z.length - m then i else z.length - m) + 1 ∧ R.map (·.2) = (List.range c).map fun k => (((f + k : Nat) : Int), ((f + k + m : Nat) : Int))) → Q (.ref l) H'
theorem sc_stretches_over : FnScope ["text", "index", "size", "first", "greatest", "start"] ["text", "index", "size"] (defScope s_stretches_over) := ⟨rfl, rfl, rfl, by decide +kernel, rfl, by decide +kernel, by decide +kernel⟩
theorem ok_stretches_over (T : Txt K mg ea) : Cl P w K mg base 1 "stretches_over" (spOver K) := by
  have nd := sc_stretches_over.nd
  refine cl_of T.d_stretches_over sc_stretches_over (fun vs H Q E h => ?_) (fun f cdv A outer s H vs Q E hr h => ?_)
  · obtain ⟨z, i, m, rfl, _⟩ := h
    rfl
  · obtain ⟨z, i, m, rfl, zl, hi, m2, q⟩ := h
    refine ⟨_, (pss_cons (ps_set (i := 3) nd rfl (.inl rfl) (pe_callB (call_max2 rfl) (by rfl) T.b_max (by decide +kernel) (pa_cons pe_int (pa_cons (pe_op op_add (pe_op op_sub (pv 1) (pv 2)) pe_int) pa_nil))))
      (pss_cons (ps_set (i := 4) nd rfl (.inl rfl) (pe_callB (call_min2 rfl) (by rfl) T.b_min (by decide +kernel) (pa_cons (pv 1) (pa_cons (pe_op op_sub (pe_callB call_len_str (by rfl) T.b_len PySem.boot_len (pa_cons (pv 0) pa_nil)) (pv 2)) pa_nil))))
      (pss_one (ps_ret (pe_lc (own := [("start", 5)]) (g := (gName 5)) rfl nd (pi_range2 rfl T.b_range (pa_cons (pv 3) (pa_cons (pe_op op_add (pv 4) pe_int) pa_nil))) (blkOk_by (own := [("start", 5)]) (N := ["text", "index", "size", "first", "greatest", "start"]) (sc := defScope s_stretches_over) (by decide +kernel)) (fun _ _ _ _ _ => (pg_name (i := 5) nd rfl (.inl rfl))) (fun _ _ _ _ _ => pts_nil) (fun _ _ _ _ _ => (pe_tup (pa_cons (pv 5) (pa_cons (pe_op op_add (pv 5) (pv 2)) pa_nil))))))))), ?_⟩
    refine ⟨_, rfl, _, rfl, _, _, rfl, rfl, _, _, rfl, rfl, _, _, rfl, ?_⟩
    refine ⟨_, rfl, _, rfl, z, rfl, Nat.le_trans zl (by decide), _, rfl, _, _, rfl, rfl, _, _, rfl, ?_⟩
    obtain ⟨f, hf, ef⟩ : ∃ f : Nat, (if (i : Int) - (m : Int) + 1 > 0 then (i : Int) - (m : Int) + 1 else 0) = (f : Int) ∧ f = i + 1 - m := ⟨i + 1 - m, by split <;> omega, rfl⟩
    obtain ⟨g, hg, eg⟩ : ∃ g : Nat, (if (z.length : Int) - (m : Int) < (i : Int) then (z.length : Int) - (m : Int) else (i : Int)) = (g : Int) ∧ g = if i ≤ z.length - m then i else z.length - m := ⟨if i ≤ z.length - m then i else z.length - m, by split <;> split <;> omega, rfl⟩
    simp only [hf, hg]
    have fg : f ≤ g + 1 ∧ g ≤ 40 := by
      rw [eg, ef]
      split <;> omega
    refine ⟨_, rfl, _, rfl, _, _, rfl, rfl, _, _, rfl, ⟨by omega, by omega, by omega, by omega⟩, fun D nD => ?_⟩
    refine lc_w (walk_range (lo := (f : Int)) (n := ((g : Int) + 1 - (f : Int)).toNat)) nD (by omega) (fun _ _ => trivial) (fun k acc H' => ∃ R : QT, acc = qrefs R ∧ QAt K H' R ∧ R.map (·.2) = (List.range k).map fun k => (((f + k : Nat) : Int), ((f + k + m : Nat) : Int))) (fun _ _ => ⟨[], rfl, (fun _ m => nomatch m), rfl⟩)
      (fun k acc Ha Hb l hD e r => by obtain ⟨R, r1, r2, r3⟩ := r; exact ⟨R, r1, fun y hy => but_tup hD e (r2 y hy), r3⟩) (fun i H x H' y => by rw [y.1]; exact Same.refl _) (fun k x acc Ha Hb Qn Qf hk sm y r at_ kn kf => ?_) (fun acc H1 s1 at_ _ r => ?_)
    · obtain ⟨rfl, rfl⟩ := y
      obtain ⟨R, rfl, r2, r3⟩ := r
      have ek : (f : Int) + (k : Int) = ((f + k : Nat) : Int) := by omega
      have ek2 : ((f + k : Nat) : Int) + (m : Int) = ((f + k + m : Nat) : Int) := by omega
      simp only [ek]
      refine ⟨rfl, _, rfl, _, rfl, _, rfl, _, _, rfl, rfl, (by show 2 ≤ sizeLine; decide), fun t nt => ?_⟩
      dsimp only
      rw [ek2]
      have st := same_new (o := .tup [.int ((f + k : Nat) : Int), .int ((f + k + m : Nat) : Int)]) nt
      refine kn _ _ st ⟨R ++ [(t, ((f + k : Nat) : Int), ((f + k + m : Nat) : Int))], by unfold qrefs; rw [List.map_append]; rfl, fun y hy => ?_, ?_⟩
      · rcases List.mem_append.mp hy with h | h
        · exact same_tup st (r2 y h)
        · rw [List.mem_singleton.mp h]
          exact .inl (.inl upd_same)
      · rw [List.map_append, r3, List.range_succ, List.map_append]
        rfl
    · obtain ⟨R, rfl, r2, r3⟩ := r
      refine q D R H1 s1 at_ r2 ⟨f, ((g : Int) + 1 - (f : Int)).toNat, ef, ?_, r3⟩
      rw [← eg]
      omega
/-- the shortest single stretch over a letter -/
def spSingle (K : PySem.W.Frag) (ea : Ea) : Sp := fun vs H Q E => ∃ (a : Addr) (L : PL) (n i : Int), vs = [.ref a, .int n, .int i] ∧ HsAt K H a L ∧ L.length ≤ 8 ∧ (∀ q ∈ L, q.2.2.length ≤ 40) ∧ Small n ∧ Small i ∧ (lk n (L.map (·.2)) = none → Errs E H ea.c_NoText n) ∧
  ∀ z, lk n (L.map (·.2)) = some z → (¬ (0 ≤ i ∧ i < z.length) → Errs E H ea.c_OutOfRange i) ∧ ∀ j : Nat, i = (j : Int) → j < z.length → ∀ (r : Option (Nat × Nat)) (v : V) (H' : Hp), Same H H' → LeastS (L.map (·.2)) z j r → AtS K H' v r → Q v H'
theorem sc_shortest_single : FnScope ["house", "number", "index", "text", "size", "start", "stop"] ["house", "number", "index"] (defScope s_shortest_single) := ⟨rfl, rfl, rfl, by decide +kernel, rfl, by decide +kernel, by decide +kernel⟩
theorem ok_shortest_single (T : Txt K mg ea) (c_text_with_letter : ClX P w K mg base 4 "text_with_letter" (spTextL K ea)) (c_stretches_over : Cl P w K mg base 1 "stretches_over" (spOver K)) (c_count : Cl P w K mg base 2 "count" (spCountW K)) : ClX P w K mg base 5 "shortest_single" (spSingle K ea) := by
  have nd := sc_shortest_single.nd
  refine clx_of T.d_shortest_single sc_shortest_single (fun vs H Q E h => ?_) (fun f cdv A outer s H vs Q E hr h => ?_)
  · obtain ⟨a, L, n, i, rfl, _⟩ := h
    rfl
  · obtain ⟨a, L, n, i, rfl, hA, hl, hz, hn, hi, e1, q⟩ := h
    refine ⟨_, (pss_cons (ps_set (i := 3) nd rfl (.inl rfl) (pe_cx c_text_with_letter hr (by decide) (fun σ => passAt (takes_of rfl rfl rfl rfl) σ) (by rfl) (pa_cons (pv 0) (pa_cons (pv 1) (pa_cons (pv 2) pa_nil)))))
      (pss_cons (ps_for (passes_of rfl) rfl (pi_range2 rfl T.b_range (pa_cons pe_int (pa_cons (pe_op op_add (pe_callB call_len_str (by rfl) T.b_len PySem.boot_len (pa_cons (pv 3) pa_nil)) pe_int) pa_nil))) (pg_name (i := 4) nd rfl (.inl rfl))
        (pss_one (ps_for (passes_of rfl) rfl (pi_listK (K := K) (C8.pe_c c_stretches_over hr (by decide) (by rfl) (pa_cons (pv 3) (pa_cons (pv 2) (pa_cons (pv 4) pa_nil))))) (pg_tup rfl (pgs_cons (pg_name (i := 5) nd rfl (.inl rfl)) (pgs_cons (pg_name (i := 6) nd rfl (.inl rfl)) pgs_nil)))
            (pss_one (ps_if (pt_cmpR op_eq (C8.pe_c c_count hr (by decide) (by rfl) (pa_cons (pv 0) (pa_cons (pe_slice sl_str (pv 3) (po_some (pv 5)) (po_some (pv 6))) pa_nil))) pe_int (nomark _))
                (pss_one (ps_ret (pe_tup (pa_cons (pv 5) (pa_cons (pv 6) pa_nil)))))
                pss_nil)))))
      (pss_one (ps_ret pe_non)))), ?_⟩
    refine ⟨_, rfl, _, rfl, _, rfl, a, L, n, i, rfl, hA, hz, hn, hi, e1, fun z hzz => ⟨(q z hzz).1, fun hin => ?_⟩⟩
    obtain ⟨j, rfl⟩ : ∃ j : Nat, i = j := ⟨i.toNat, by omega⟩
    have hj : j < z.length := by omega
    have q2 := (q z hzz).2 j rfl hj
    have zl := lk_len hz hzz
    have zs : z.length ≤ sizeLine := Nat.le_trans zl (by decide)
    refine ⟨_, rfl, z, rfl, zs, _, _, rfl, rfl, _, _, rfl, ⟨by omega, by omega, by omega, by omega⟩, ?_⟩
    refine for_range (lo := 1) (n := ((z.length : Int) + 1 - 1).toNat) (fun k σ H' => Same H H' ∧ (∀ s m, m < 1 + k → ¬ Sgl (L.map (·.2)) z j s m) ∧ ∃ y4 y5 y6 : Option V, σ = [some (.ref a), some (.int n), some (.int (j : Int)), some (.str z), y4, y5, y6])
      ⟨Same.refl _, fun s m hm y => by have := y.1; have := y.2.1; omega, _, _, _, rfl⟩ (fun k σ H' hk hW => ?_) (fun σ H' hW => ?_)
    · obtain ⟨sm, hno, y4, y5, y6, rfl⟩ := hW
      have ek : (1 : Int) + (k : Int) = ((1 + k : Nat) : Int) := by omega
      rw [ek]
      refine ⟨_, rfl, _, rfl, _, rfl, z, j, 1 + k, rfl, zl, hj, by omega, fun l R H1 s1 at1 hR hex => ?_⟩
      obtain ⟨f0, c0, ef, ec, er⟩ := hex
      have rl : R.length = c0 := by have := congrArg List.length er; rw [List.length_map, List.length_map, List.length_range] at this; exact this
      refine ⟨l, rfl, ⟨_, SqL.of at1⟩, ?_⟩
      refine for_it (walk_list (K := K) (a := l) (xs := qrefs R)) (fun u σ H' => Same H1 H' ∧ (∀ s, s < f0 + u → ¬ Sgl (L.map (·.2)) z j s (1 + k)) ∧ ∃ y5 y6 : Option V, σ = [some (.ref a), some (.int n), some (.int (j : Int)), some (.str z), some (.int ((1 + k : Nat) : Int)), y5, y6])
        ⟨Same.refl _, fun s hs y => by have := y.2.1; omega, _, _, rfl⟩ (fun u σ H' _ hW => ?_) (fun u x σ H2 H3 hu hW y => ?_) (fun σ H2 hW => ?_)
      · exact SqL.of (hW.1 _ _ at1)
      · obtain ⟨s2, hno2, y5, y6, rfl⟩ := hW
        obtain ⟨rfl, hx⟩ := y
        obtain ⟨r1, hr1, rm, rfl⟩ := qrefs_at hx
        have hr2 : (R.map (·.2))[u]? = some r1.2 := by rw [List.getElem?_map, hr1]; rfl
        rw [er, List.getElem?_map] at hr2
        have uc : u < c0 := by rw [← rl]; exact (List.getElem?_eq_some_iff.mp hr1).1
        rw [List.getElem?_range uc] at hr2
        have ev : r1.2 = (((f0 + u : Nat) : Int), ((f0 + u + (1 + k) : Nat) : Int)) := (Option.some.inj hr2).symm
        have tu := same_tup s2 (hR r1 rm)
        rw [ev] at tu
        have bnd : f0 + u ≤ j ∧ f0 + u + (1 + k) ≤ z.length ∧ j < f0 + u + (1 + k) := by
          split at ec <;> omega
        have wl := cutN_len (z := z) (a := f0 + u) (b := f0 + u + (1 + k)) (by omega) bnd.2.1
        refine ⟨_, _, rfl, tu, rfl, _, _, rfl, _, _, rfl, rfl, ?_⟩
        refine ⟨_, rfl, _, rfl, _, rfl, _, rfl, _, rfl, _, rfl, z, rfl, zs, a, L, cutN z (f0 + u) (f0 + u + (1 + k)), rfl, ⟨(sm.trans (s1.trans s2)).seq hA.1, fun y hy => same_tup (sm.trans (s1.trans s2)) (hA.2 y hy)⟩, by omega, fun q hq => Nat.le_trans (hz q hq) (by decide), by omega, fun H4 s4 => ?_⟩
        refine ⟨rfl, _, rfl, ite2 (fun e => ?_) (fun e => ?_)⟩
        · have one : (plc (L.map (·.2)) (cutN z (f0 + u) (f0 + u + (1 + k)))).length = 1 := by
            have := V.int.inj (of_decide_eq_true e)
            omega
          refine ⟨_, rfl, _, rfl, (by show 2 ≤ sizeLine; decide), fun t nt => ?_⟩
          refine q2 (some (f0 + u, 1 + k)) (.ref t) _ (sm.trans (s1.trans (s2.trans (s4.trans (same_new nt))))) ⟨⟨bnd.1, bnd.2.2, bnd.2.1, one⟩, fun s' m' y => ?_⟩ ⟨t, rfl, upd_same⟩
          rcases Nat.lt_or_ge m' (1 + k) with c | c
          · exact absurd y (hno s' m' c)
          · rcases Nat.lt_or_ge (1 + k) m' with d | d
            · exact .inl d
            · have em : m' = 1 + k := by omega
              refine .inr ⟨em.symm, ?_⟩
              rcases Nat.lt_or_ge s' (f0 + u) with g | g
              · exact absurd (em ▸ y) (hno2 s' g)
              · exact g
        · refine ⟨s2.trans s4, fun s hs y => ?_, _, _, rfl⟩
          rcases Nat.lt_or_ge s (f0 + u) with c | c
          · exact hno2 s c y
          · have : s = f0 + u := by omega
            subst this
            refine e (decide_eq_true ?_)
            have := y.2.2.2
            rw [this]
            rfl
      · obtain ⟨s2, hno2, y5, y6, rfl⟩ := hW
        rw [qrefs_len, rl] at hno2
        refine ⟨sm.trans (s1.trans s2), fun s m hm y => ?_, _, _, _, rfl⟩
        rcases Nat.lt_or_ge m (1 + k) with c | c
        · exact hno s m c y
        · have em : m = 1 + k := by omega
          subst em
          refine hno2 s ?_ y
          have h1 := y.1
          have h2 := y.2.2.1
          split at ec <;> omega
    · obtain ⟨sm, hno, y4, y5, y6, rfl⟩ := hW
      refine q2 none .non H' sm (fun s m y => hno s m ?_ y) rfl
      have := y.2.2.1
      omega
end

end SH
set_option Elab.async false
set_option linter.all false
set_option maxRecDepth 100000
set_option maxHeartbeats 4000000
namespace SH
open PySem PySem.Spec PyProof.Rows L2
section
variable {P : Program} {w : World} {K : PySem.W.Frag} {mg : Str → Option Value} {base : Heap} {ea : Ea}
/-- a stretch told, or None -/
def OAt (K : PySem.W.Frag) (H : Hp) (v : V) : Option (Int × Int) → Prop
  | none => v = .non
  | some p => PrAt K H v p
theorem OAt.same {H H' : Hp} {v : V} (e : Same H H') : ∀ {o : Option (Int × Int)}, OAt K H v o → OAt K H' v o
  | none, h => h
  | some _, h => PrAt.same e h
theorem AtS.fat {H : Hp} {v : V} : ∀ {r : Option (Nat × Nat)}, AtS K H v r → OAt K H v (foI r)
  | none, h => h
  | some _, h => by
    obtain ⟨t, rfl, ht⟩ := h
    exact ⟨t, rfl, SqT.of ht⟩
/-- those in range -/
def InF (len j : Nat) : Option (Int × Int) → Prop
  | none => True
  | some (a, b) => 0 ≤ a ∧ a ≤ (j : Int) ∧ (j : Int) < b ∧ b ≤ (len : Int)
/-- the stretches asked for: new pairs in a new list -/
def spAsked (K : PySem.W.Frag) : Sp := fun vs H Q _ => ∃ (z : Str) (j : Nat) (v : V) (o : Option (Int × Int)), vs = [.str z, .int j, v] ∧ z.length ≤ 40 ∧ j < z.length ∧ OAt K H v o ∧ InF z.length j o ∧
  ∀ (l : Addr) (R : QT) (H' : Hp), Same H H' → H' l = some (.lst (qrefs R)) → QAt K H' R → R.map (·.2) = (askO z.length j o).map pI → Q (.ref l) H'
theorem sc__asked_stretches : FnScope ["text", "index", "found", "start", "stop"] ["text", "index", "found"] (defScope s__asked_stretches) := ⟨rfl, rfl, rfl, by decide +kernel, rfl, by decide +kernel, by decide +kernel⟩
theorem ok__asked_stretches (T : Txt K mg ea) (c_stretches_over : Cl P w K mg base 1 "stretches_over" (spOver K)) : Cl P w K mg base 2 "_asked_stretches" (spAsked K) := by
  have nd := sc__asked_stretches.nd
  refine cl_of T.d__asked_stretches sc__asked_stretches (fun vs H Q E h => ?_) (fun f cdv A outer s H vs Q E hr h => ?_)
  · obtain ⟨z, j, v, o, rfl, _⟩ := h
    rfl
  · obtain ⟨z, j, v, o, rfl, zl, hj, hv, ho, q⟩ := h
    refine ⟨_, (pss_cons (ps_if (pt_cmpR op_isN (pv 2) pe_non (nomark _))
        (pss_one (ps_ret (pe_lst (pa_cons (pe_tup (pa_cons pe_int (pa_cons (pe_callB call_len_str (by rfl) T.b_len PySem.boot_len (pa_cons (pv 0) pa_nil)) pa_nil))) pa_nil))))
        pss_nil)
      (pss_cons (ps_asg (pv 2) (pg_tup rfl (pgs_cons (pg_name (i := 3) nd rfl (.inl rfl)) (pgs_cons (pg_name (i := 4) nd rfl (.inl rfl)) pgs_nil))))
      (pss_one (ps_ret (C8.pe_c c_stretches_over hr (by decide) (by rfl) (pa_cons (pv 0) (pa_cons (pv 1) (pa_cons (pe_op op_sub (pe_op op_sub (pv 4) (pv 3)) pe_int) pa_nil)))))))), ?_⟩
    have zs : z.length ≤ sizeLine := Nat.le_trans zl (by decide)
    cases o with
    | none =>
      obtain rfl : v = .non := hv
      refine ⟨_, rfl, rfl, _, rfl, iteT ?_⟩
      refine ⟨_, rfl, z, rfl, zs, (by show 2 ≤ sizeLine; decide), fun t nt => ⟨(by show 1 ≤ sizeLine; decide), fun l nl => ?_⟩⟩
      have st := same_new (o := .tup [.int 0, .int (z.length : Int)]) nt
      exact q l [(t, 0, (z.length : Int))] _ (st.trans (same_new nl)) upd_same (fun y hy => by rw [List.mem_singleton.mp hy]; exact same_tup (same_new nl) (.inl (.inl upd_same))) rfl
    | some p =>
      obtain ⟨a, b⟩ := p
      obtain ⟨t, rfl, ht⟩ := hv
      refine ⟨_, rfl, rfl, _, rfl, iteF ?_⟩
      refine ⟨_, rfl, ?_⟩
      refine ⟨_, _, rfl, ht, rfl, _, _, rfl, _, _, rfl, rfl, ?_⟩
      obtain ⟨b1, b2, b3, b4⟩ := ho
      refine ⟨_, rfl, _, rfl, _, rfl, _, rfl, _, _, rfl, rfl, _, _, rfl, rfl, ?_⟩
      have em : b - a - 1 = (((b - a).toNat - 1 : Nat) : Int) := by omega
      dsimp only
      rw [em]
      refine ⟨z, j, (b - a).toNat - 1, rfl, zl, hj, by omega, fun l R H1 s1 at1 hR hex => ?_⟩
      obtain ⟨f0, c0, ef, ec, er⟩ := hex
      refine q l R H1 s1 at1 hR ?_
      rw [er]
      show _ = (askN z.length j (some (b - a).toNat)).map pI
      rw [← ask_range (f := f0) (c := c0) hj (by omega) ef ec, List.map_map]
      rfl
theorem sc__law_named : FnScope ["text", "index", "found", "size", "starts", "start"] ["text", "index", "found"] (defScope s__law_named) := ⟨rfl, rfl, rfl, by decide +kernel, rfl, by decide +kernel, by decide +kernel⟩
theorem ok__law_named (T : Txt K mg ea) : Cl P w K mg base 1 "_law_named" (spAsked K) := by
  have nd := sc__law_named.nd
  refine cl_of T.d__law_named sc__law_named (fun vs H Q E h => ?_) (fun f cdv A outer s H vs Q E hr h => ?_)
  · obtain ⟨z, j, v, o, rfl, _⟩ := h
    rfl
  · obtain ⟨z, j, v, o, rfl, zl, hj, hv, ho, q⟩ := h
    refine ⟨_, (pss_cons (ps_if (pt_cmpR op_isN (pv 2) pe_non (nomark _))
        (pss_one (ps_ret (pe_lst (pa_cons (pe_tup (pa_cons pe_int (pa_cons (pe_callB call_len_str (by rfl) T.b_len PySem.boot_len (pa_cons (pv 0) pa_nil)) pa_nil))) pa_nil))))
        pss_nil)
      (pss_cons (ps_set (i := 3) nd rfl (.inr rfl) (pe_op op_sub (pe_op op_sub (pe_ix (ixt (K := K)) (pv 2) pe_int (fun _ _ => rfl)) (pe_ix (ixt (K := K)) (pv 2) pe_int (fun _ _ => rfl))) pe_int))
      (pss_cons (ps_setLc (i := 4) (own := [("start", 5)]) (g := (gName 5)) rfl nd rfl rfl (sw_true rfl rfl rfl (by decide +kernel)) (pi_range1 rfl T.b_range (pa_cons (pe_callB call_len_str (by rfl) T.b_len PySem.boot_len (pa_cons (pv 0) pa_nil)) pa_nil)) (blkOk_by (own := [("start", 5)]) (N := ["text", "index", "found", "size", "starts", "start"]) (sc := defScope s__law_named) (by decide +kernel)) (fun _ _ _ _ _ => (pg_name (i := 5) nd rfl (.inl rfl))) (fun _ _ _ _ _ => pts_one (pt_chain3 op_le op_lt op_le (pv 5) (pv 1) (pe_op op_add (pv 5) (pv 3)) (pe_callB call_len_str (by rfl) T.b_len PySem.boot_len (pa_cons (pv 0) pa_nil)))) (fun _ _ _ _ _ => (pv 5)))
      (pss_one (ps_ret (pe_lc (own := [("start", 5)]) (g := (gName 5)) rfl nd (pi_listK (K := K) (pv 4)) (blkOk_by (own := [("start", 5)]) (N := ["text", "index", "found", "size", "starts", "start"]) (sc := defScope s__law_named) (by decide +kernel)) (fun _ _ _ _ _ => (pg_name (i := 5) nd rfl (.inl rfl))) (fun _ _ _ _ _ => pts_nil) (fun _ _ _ _ _ => (pe_tup (pa_cons (pv 5) (pa_cons (pe_op op_add (pv 5) (pv 3)) pa_nil)))))))))), ?_⟩
    have zs : z.length ≤ sizeLine := Nat.le_trans zl (by decide)
    cases o with
    | none =>
      obtain rfl : v = .non := hv
      refine ⟨_, rfl, rfl, _, rfl, iteT ?_⟩
      refine ⟨_, rfl, z, rfl, zs, (by show 2 ≤ sizeLine; decide), fun t nt => ⟨(by show 1 ≤ sizeLine; decide), fun l nl => ?_⟩⟩
      have st := same_new (o := .tup [.int 0, .int (z.length : Int)]) nt
      exact q l [(t, 0, (z.length : Int))] _ (st.trans (same_new nl)) upd_same (fun y hy => by rw [List.mem_singleton.mp hy]; exact same_tup (same_new nl) (.inl (.inl upd_same))) rfl
    | some p =>
      obtain ⟨a, b⟩ := p
      obtain ⟨t, rfl, ht⟩ := hv
      refine ⟨_, rfl, rfl, _, rfl, iteF ?_⟩
      obtain ⟨b1, b2, b3, b4⟩ := ho
      refine ⟨_, rfl, t, _, _, _, rfl, rfl, ht, atI_nat (j := 1) rfl, _, rfl, t, _, _, _, rfl, rfl, ht, atI_nat (j := 0) rfl, _, _, rfl, rfl, _, _, rfl, rfl, ?_⟩
      obtain ⟨m, em⟩ : ∃ m : Nat, m = (b - a).toNat := ⟨_, rfl⟩
      have e1 : b - a - 1 = ((m - 1 : Nat) : Int) := by omega
      dsimp only
      rw [e1]
      refine ⟨_, rfl, z, rfl, zs, _, rfl, by omega, by omega, fun D nD => ?_⟩
      refine lc_w (walk_range (lo := 0) (n := (z.length : Int).toNat)) nD (by omega) (fun _ _ => trivial) (fun k acc _ => acc = ((List.range k).filter fun s => decide (s ≤ j ∧ j < s + (m - 1) ∧ s + (m - 1) ≤ z.length)).map fun s : Nat => V.int (s : Int)) (fun _ _ => rfl) (fun _ _ _ _ _ _ _ r => r) (fun i H x H' y => by rw [y.1]; exact Same.refl _) (fun k x acc Ha Hb Qn Qf hk sm y r at_ kn kf => ?_) (fun acc H1 s1 at1 _ r => ?_)
      · obtain ⟨rfl, rfl⟩ := y
        have e0 : (0 : Int) + (k : Int) = (k : Int) := Int.zero_add _
        dsimp only
        rw [e0]
        have sn : ∀ c : Prop, [Decidable c] → (decide (k ≤ j ∧ j < k + (m - 1) ∧ k + (m - 1) ≤ z.length) = decide c) → ((List.range (k + 1)).filter fun s => decide (s ≤ j ∧ j < s + (m - 1) ∧ s + (m - 1) ≤ z.length)).map (fun s : Nat => V.int (s : Int)) = acc ++ if c then [V.int (k : Int)] else [] := fun c _ e => by
          rw [List.range_succ, List.filter_append, List.map_append, r]
          congr 1
          by_cases h : c
          · rw [if_pos h, List.filter_cons_of_pos (by rw [e]; exact decide_eq_true h)]
            rfl
          · rw [if_neg h, List.filter_cons_of_neg (by rw [e]; exact fun z => h (of_decide_eq_true z))]
            rfl
        have no : ¬ (k ≤ j ∧ j < k + (m - 1) ∧ k + (m - 1) ≤ z.length) → Qf Hb := fun h => kf _ (Same.refl _) (by rw [sn False (by rw [decide_eq_false h]; rfl)]; simp)
        refine ⟨rfl, _, rfl, _, rfl, _, _, rfl, rfl, _, rfl, ite2 (fun c1 => ?_) (fun c1 => ⟨_, rfl, iteF (no fun z => c1 (decide_eq_true (by omega)))⟩)⟩
        refine ⟨_, rfl, _, rfl, _, _, rfl, rfl, _, _, rfl, rfl, _, rfl, ite2 (fun c2 => ?_) (fun c2 => ⟨_, rfl, iteF (no fun z => c2 (decide_eq_true (by omega)))⟩)⟩
        refine ⟨_, rfl, z, rfl, zs, _, _, rfl, rfl, _, rfl, ite2 (fun c3 => ?_) (fun c3 => no fun z => c3 (decide_eq_true (by omega)))⟩
        have d1 := of_decide_eq_true c1
        have d2 := of_decide_eq_true c2
        have d3 := of_decide_eq_true c3
        exact ⟨_, rfl, kn _ _ (Same.refl _) (by rw [sn True (by rw [decide_eq_true (show k ≤ j ∧ j < k + (m - 1) ∧ k + (m - 1) ≤ z.length by omega)]; rfl), if_pos trivial])⟩
      · subst r
        generalize eS : ((List.range (z.length : Int).toNat).filter fun s => decide (s ≤ j ∧ j < s + (m - 1) ∧ s + (m - 1) ≤ z.length)) = S at at1
        have zn : (z.length : Int).toNat = z.length := Int.toNat_natCast _
        rw [zn] at eS
        have Sl : S.length ≤ 40 := by rw [← eS]; exact Nat.le_trans (List.length_filter_le _ _) (by rw [List.length_range]; exact zl)
        have ask : (askO z.length j (some (a, b))).map pI = S.map fun s : Nat => ((s : Int), ((s + (m - 1) : Nat) : Int)) := by
          show (askN z.length j (some (b - a).toNat)).map pI = _
          rw [← em, ← eS]
          show ((((List.range z.length).filter fun s => decide (s ≤ j ∧ j < s + (m - 1) ∧ s + (m - 1) ≤ z.length)).map fun s => (s, s + (m - 1))).map pI) = _
          rw [List.map_map]
          rfl
        refine ⟨_, rfl, D, rfl, ⟨_, SqL.of at1⟩, fun D2 nD2 => ?_⟩
        refine lc_w (walk_list (xs := S.map fun s : Nat => V.int (s : Int))) nD2 (by rw [List.length_map]; omega) (fun H' e => SqL.of (e _ _ at1)) (fun k acc H' => ∃ R : QT, acc = qrefs R ∧ QAt K H' R ∧ R.map (·.2) = (S.take k).map fun s : Nat => ((s : Int), ((s + (m - 1) : Nat) : Int))) (fun _ _ => ⟨[], rfl, (fun _ m => nomatch m), rfl⟩)
          (fun k acc Ha Hb l hD e r => by obtain ⟨R, r1, r2, r3⟩ := r; exact ⟨R, r1, fun y hy => but_tup hD e (r2 y hy), r3⟩) (fun i H x H' y => by rw [y.1]; exact Same.refl _) (fun k x acc Ha Hb Qn Qf hk sm y r at_ kn kf => ?_) (fun acc H2 s2 at2 _ r => ?_)
        · obtain ⟨rfl, hx⟩ := y
          obtain ⟨R, rfl, r2, r3⟩ := r
          rw [List.getElem?_map] at hx
          obtain ⟨s0, hs0, rfl⟩ := Option.map_eq_some_iff.mp hx
          refine ⟨rfl, _, rfl, _, rfl, _, rfl, _, _, rfl, rfl, (by show 2 ≤ sizeLine; decide), fun t nt => ?_⟩
          dsimp only
          rw [show ((s0 : Int) + ((m - 1 : Nat) : Int)) = ((s0 + (m - 1) : Nat) : Int) by omega]
          have st := same_new (o := .tup [.int (s0 : Int), .int ((s0 + (m - 1) : Nat) : Int)]) nt
          refine kn _ _ st ⟨R ++ [(t, (s0 : Int), ((s0 + (m - 1) : Nat) : Int))], by unfold qrefs; rw [List.map_append]; rfl, fun y hy => ?_, ?_⟩
          · rcases List.mem_append.mp hy with h | h
            · exact same_tup st (r2 y h)
            · rw [List.mem_singleton.mp h]
              exact .inl (.inl upd_same)
          · rw [List.map_append, r3, take_snoc hs0, List.map_append]
            rfl
        · obtain ⟨R, rfl, r2, r3⟩ := r
          rw [List.take_of_length_le (by rw [List.length_map]; exact Nat.le_refl _)] at r3
          exact q D2 R H2 (s1.trans s2) at2 r2 (r3.trans ask.symm)
end

end SH
set_option Elab.async false
set_option linter.all false
set_option maxRecDepth 100000
set_option maxHeartbeats 4000000
namespace SH
open PySem PySem.Spec PyProof.Rows L2
section
variable {P : Program} {w : World} {K : PySem.W.Frag} {mg : Str → Option Value} {base : Heap} {ea : Ea}
/-- the places of a word but one -/
def spOtherP (K : PySem.W.Frag) : Sp := fun vs H Q _ => ∃ (a : Addr) (L : PL) (wd : Str) (v : V) (o : Int × Int), vs = [.ref a, .str wd, v] ∧ HsAt K H a L ∧ L.length ≤ 8 ∧ (∀ q ∈ L, q.2.2.length ≤ 40) ∧ wd.length ≤ 40 ∧ PrAt K H v o ∧
  ∀ (l : Addr) (R : QT) (H' : Hp), Same H H' → H' l = some (.lst (qrefs R)) → QAt K H' R → R.map (·.2) = (plc (L.map (·.2)) wd).filter (fun x => decide (x ≠ o)) → Q (.ref l) H'
theorem plc_few {h : List (Int × Str)} {w : Str} (hl : h.length ≤ 8) (hz : ∀ q ∈ h, q.2.length ≤ 40) : (plc h w).length ≤ 400 := by
  have := plc_len (w := w) hz
  omega
theorem PL_few {L : PL} (hz : ∀ q ∈ L, q.2.2.length ≤ 40) : ∀ q ∈ L.map (·.2), q.2.length ≤ 40 := fun q hq => by
  obtain ⟨y, hy, rfl⟩ := List.mem_map.mp hq
  exact hz y hy
theorem sc__other_places : FnScope ["house", "word", "own", "place"] ["house", "word", "own"] (defScope s__other_places) := ⟨rfl, rfl, rfl, by decide +kernel, rfl, by decide +kernel, by decide +kernel⟩
theorem ok__other_places (T : Txt K mg ea) (c_places : Cl P w K mg base 1 "places" (spPlaces K)) : Cl P w K mg base 2 "_other_places" (spOtherP K) := by
  have nd := sc__other_places.nd
  refine cl_of T.d__other_places sc__other_places (fun vs H Q E h => ?_) (fun f cdv A outer s H vs Q E hr h => ?_)
  · obtain ⟨a, L, wd, v, o, rfl, _⟩ := h
    rfl
  · obtain ⟨a, L, wd, v, o, rfl, hA, hl, hz, wl, hv, q⟩ := h
    refine ⟨_, (pss_one (ps_ret (pe_lc (own := [("place", 3)]) (g := (gName 3)) rfl nd (pi_listK (K := K) (C8.pe_c c_places hr (by decide) (by rfl) (pa_cons (pv 0) (pa_cons (pv 1) pa_nil)))) (blkOk_by (own := [("place", 3)]) (N := ["house", "word", "own", "place"]) (sc := defScope s__other_places) (by decide +kernel)) (fun _ _ _ _ _ => (pg_name (i := 3) nd rfl (.inl rfl))) (fun _ _ _ _ _ => pts_one (pt_cmpR (op_neDK (K := K) hr.units) (pv 3) (pv 2) (nomark _))) (fun _ _ _ _ _ => (pv 3))))), ?_⟩
    refine ⟨_, rfl, _, rfl, a, L, wd, rfl, hA, by omega, fun q hq => Nat.le_trans (hz q hq) (by decide), by omega, fun l R H1 s1 nl at1 hR eR => ?_⟩
    have rl : R.length ≤ 400 := by
      have e := congrArg List.length eR
      rw [List.length_map] at e
      have := plc_few (w := wd) (h := L.map (·.2)) (by rw [List.length_map]; exact hl) (PL_few hz)
      omega
    refine ⟨l, rfl, ⟨_, SqL.of at1⟩, fun D nD => ?_⟩
    refine lc_w (walk_list (xs := qrefs R)) nD (by rw [qrefs_len]; omega) (fun H' e => SqL.of (e _ _ at1)) (fun k acc _ => acc = qrefs ((R.take k).filter fun x => decide (x.2 ≠ o))) (fun _ _ => rfl) (fun _ _ _ _ _ _ _ r => r) (fun i H x H' y => by rw [y.1]; exact Same.refl _) (fun k x acc Ha Hb Qn Qf hk sm y r at_ kn kf => ?_) (fun acc H2 s2 at2 _ r => ?_)
    · obtain ⟨rfl, hx⟩ := y
      obtain ⟨r1, hr1, rm, rfl⟩ := qrefs_at hx
      subst r
      have pr : PrAt K Hb (.ref r1.1) r1.2 := ⟨r1.1, rfl, same_tup sm (hR r1 rm)⟩
      have po := hv.same (s1.trans sm)
      have sn : (R.take (k + 1)).filter (fun x => decide (x.2 ≠ o)) = (R.take k).filter (fun x => decide (x.2 ≠ o)) ++ if r1.2 = o then [] else [r1] := by
        rw [take_snoc hr1, List.filter_append]
        congr 1
        by_cases h : r1.2 = o
        · rw [if_pos h, List.filter_cons_of_neg (by simp [h])]; rfl
        · rw [if_neg h, List.filter_cons_of_pos (by simp [h])]; rfl
      refine ⟨rfl, _, rfl, _, rfl, dP2 r1.2, dP2 o, pr.dp, po.dp, p2_shaped _, p2_shaped _, ?_⟩
      rw [eqv_p2]
      refine ⟨_, rfl, ?_⟩
      by_cases h : r1.2 = o
      · rw [decide_eq_true h]
        exact iteF (kf _ (Same.refl _) (by rw [sn, if_pos h, List.append_nil]))
      · rw [decide_eq_false h]
        refine iteT ⟨_, rfl, kn _ _ (Same.refl _) (by rw [sn, if_neg h]; unfold qrefs; rw [List.map_append]; rfl)⟩
    · subst r
      rw [qrefs_len, List.take_of_length_le (Nat.le_refl _)] at at2
      refine q D _ H2 (s1.trans s2) at2 (fun y hy => same_tup s2 (hR y (List.mem_filter.mp hy).1)) ?_
      rw [← eR, List.filter_map]
      rfl
/-- a stretch told that is single over the letter -/
def spSover (K : PySem.W.Frag) : Sp := fun vs H Q _ => ∃ (a : Addr) (L : PL) (z : Str) (j : Nat) (v : V) (o : Int × Int), vs = [.ref a, .str z, .int j, v] ∧ HsAt K H a L ∧ L.length ≤ 8 ∧ (∀ q ∈ L, q.2.2.length ≤ 40) ∧ z.length ≤ 40 ∧ PrAt K H v o ∧
  ∀ H', Same H H' → Q (.bl (okF (L.map (·.2)) z j (some o))) H'
theorem sc__is_single_over : FnScope ["house", "text", "index", "found", "start", "stop"] ["house", "text", "index", "found"] (defScope s__is_single_over) := ⟨rfl, rfl, rfl, by decide +kernel, rfl, by decide +kernel, by decide +kernel⟩
theorem ok__is_single_over (T : Txt K mg ea) (c_count : Cl P w K mg base 2 "count" (spCountW K)) : Cl P w K mg base 3 "_is_single_over" (spSover K) := by
  have nd := sc__is_single_over.nd
  refine cl_of T.d__is_single_over sc__is_single_over (fun vs H Q E h => ?_) (fun f cdv A outer s H vs Q E hr h => ?_)
  · obtain ⟨a, L, z, j, v, o, rfl, _⟩ := h
    rfl
  · obtain ⟨a, L, z, j, v, ⟨o1, o2⟩, rfl, hA, hl, hz, zl, ⟨t, rfl, ht⟩, q⟩ := h
    refine ⟨_, (pss_cons (ps_asg (pv 3) (pg_tup rfl (pgs_cons (pg_name (i := 4) nd rfl (.inl rfl)) (pgs_cons (pg_name (i := 5) nd rfl (.inl rfl)) pgs_nil))))
      (pss_cons (ps_if (pt_not (pt_chain4 op_le op_le op_lt op_le pe_int (pv 4) (pv 2) (pv 5) (pe_callB call_len_str (by rfl) T.b_len PySem.boot_len (pa_cons (pv 1) pa_nil))))
        (pss_one (ps_ret pe_bl))
        pss_nil)
      (pss_one (ps_ret (pe_cmpR op_eq (C8.pe_c c_count hr (by decide) (by rfl) (pa_cons (pv 0) (pa_cons (pe_slice sl_str (pv 1) (po_some (pv 4)) (po_some (pv 5))) pa_nil))) pe_int (nomark _)))))), ?_⟩
    have zs : z.length ≤ sizeLine := Nat.le_trans zl (by decide)
    have bad : ¬ (0 ≤ o1 ∧ o1 ≤ (j : Int) ∧ (j : Int) < o2 ∧ o2 ≤ (z.length : Int)) → Q (.bl false) H := fun h => by
      have := q H (Same.refl _)
      have e : okF (L.map (·.2)) z j (some (o1, o2)) = false := by
        show (decide _ && _) = false
        rw [decide_eq_false h]
        rfl
      rw [e] at this
      exact this
    refine ⟨_, rfl, ?_⟩
    refine ⟨_, _, rfl, ht, rfl, _, _, rfl, _, _, rfl, rfl, ?_⟩
    refine ⟨_, rfl, _, _, rfl, rfl, _, rfl, ite2 (fun c1 => ?_) (fun c1 => ⟨_, rfl, iteT (bad fun y => c1 (decide_eq_true y.1))⟩)⟩
    refine ⟨_, rfl, _, _, rfl, rfl, _, rfl, ite2 (fun c2 => ?_) (fun c2 => ⟨_, rfl, iteT (bad fun y => c2 (decide_eq_true y.2.1))⟩)⟩
    refine ⟨_, rfl, _, _, rfl, rfl, _, rfl, ite2 (fun c3 => ?_) (fun c3 => ⟨_, rfl, iteT (bad fun y => c3 (decide_eq_true y.2.2.1))⟩)⟩
    refine ⟨_, rfl, z, rfl, zs, _, _, rfl, rfl, _, rfl, ite2 (fun c4 => bad fun y => by rw [decide_eq_true y.2.2.2] at c4; cases c4) (fun c4 => ?_)⟩
    have rng : 0 ≤ o1 ∧ o1 ≤ (j : Int) ∧ (j : Int) < o2 ∧ o2 ≤ (z.length : Int) := ⟨of_decide_eq_true c1, of_decide_eq_true c2, of_decide_eq_true c3, by
      by_cases h : o2 ≤ (z.length : Int)
      · exact h
      · exact absurd (by show (!decide (o2 ≤ (z.length : Int))) = true; rw [decide_eq_false h]; rfl) c4⟩
    have q' : ∀ H', Same H H' → Q (.bl (decide ((plc (L.map (·.2)) (cutS z (some o1) (some o2))).length = 1))) H' := fun H' s => by
      have := q H' s
      have e : okF (L.map (·.2)) z j (some (o1, o2)) = decide ((plc (L.map (·.2)) (cutS z (some o1) (some o2))).length = 1) := by
        show (decide _ && _) = _
        rw [decide_eq_true rng]
        rfl
      rw [e] at this
      exact this
    obtain ⟨a1, rfl⟩ : ∃ x : Nat, o1 = x := ⟨o1.toNat, by omega⟩
    obtain ⟨b1, rfl⟩ : ∃ x : Nat, o2 = x := ⟨o2.toNat, by omega⟩
    have cl := cutN_len (z := z) (a := a1) (b := b1) (by omega) (by omega)
    refine ⟨_, rfl, _, rfl, _, rfl, _, rfl, _, rfl, _, rfl, z, rfl, zs, a, L, cutN z a1 b1, rfl, hA, by omega, fun q hq => Nat.le_trans (hz q hq) (by decide), by omega, fun H1 s1 => ?_⟩
    have fin := q' H1 s1
    refine ⟨rfl, ?_⟩
    have e : decide (V.int ((plc (L.map (·.2)) (cutN z a1 b1)).length : Int) = V.int 1) = decide ((plc (L.map (·.2)) (cutS z (some (a1 : Int)) (some (b1 : Int)))).length = 1) := decide_eq_decide.mpr ⟨fun h => by
      have h2 : (plc (L.map (·.2)) (cutN z a1 b1)).length = 1 := by have := V.int.inj h; omega
      exact h2, fun h => by
      have h2 : (plc (L.map (·.2)) (cutN z a1 b1)).length = 1 := h
      rw [h2]
      rfl⟩
    show Q (.bl (decide (V.int ((plc (L.map (·.2)) (cutN z a1 b1)).length : Int) = V.int 1))) H1
    rw [e]
    exact fin
end

end SH
set_option Elab.async false
set_option linter.all false
set_option maxRecDepth 100000
set_option maxHeartbeats 4000000
namespace SH
open PySem PySem.Spec PyProof.Rows L2
section
variable {P : Program} {w : World} {K : PySem.W.Frag} {mg : Str → Option Value} {base : Heap} {ea : Ea}
theorem askN_take {len j : Nat} {o : Option Nat} {k : Nat} {p : Nat × Nat} (h : (askN len j o)[k]? = some p) {f : Nat × Nat → Int × Int} : pI p ∉ (((askN len j o).take k).map fun p => (pI p, f p)).map (·.1) := by
  intro m
  rw [List.map_map] at m
  obtain ⟨q, hq, e⟩ := List.mem_map.mp m
  have nd := ask_nodup len j o
  have e1 : q.1 = p.1 := by have := (Prod.mk.inj (show pI q = pI p from e)).1; omega
  obtain ⟨i, hi⟩ := List.mem_iff_getElem?.mp hq
  rw [List.getElem?_take] at hi
  by_cases c : i < k
  · rw [if_pos c] at hi
    have h1 : ((askN len j o).map (·.1))[i]? = some p.1 := by rw [List.getElem?_map, hi]; exact congrArg some e1
    have h2 : ((askN len j o).map (·.1))[k]? = some p.1 := by rw [List.getElem?_map, h]; rfl
    have := (List.getElem?_inj (List.getElem?_eq_some_iff.mp h1).1 nd).mp (h1.trans h2.symm)
    omega
  · rw [if_neg c] at hi
    cases hi
theorem ask_len {len j : Nat} (h : len ≤ 40) (o : Option Nat) : (askN len j o).length ≤ 41 := by
  cases o with
  | none => show 1 ≤ 41; decide
  | some m =>
    show (List.map _ _).length ≤ 41
    rw [List.length_map]
    have := List.length_filter_le (fun s => decide (s ≤ j ∧ j < s + (m - 1) ∧ s + (m - 1) ≤ len)) (List.range len)
    rw [List.length_range] at this
    omega
/-- for each stretch asked for another place -/
def spSP (K : PySem.W.Frag) (ea : Ea) : Sp := fun vs H Q E => ∃ (a : Addr) (L : PL) (n i : Int), vs = [.ref a, .int n, .int i] ∧ HsAt K H a L ∧ L.length ≤ 8 ∧ (∀ q ∈ L, q.2.2.length ≤ 40) ∧ ((L.map (·.2)).map (·.1)).Pairwise (· < ·) ∧ Small n ∧ Small i ∧ (lk n (L.map (·.2)) = none → Errs E H ea.c_NoText n) ∧
  ∀ z, lk n (L.map (·.2)) = some z → (¬ (0 ≤ i ∧ i < z.length) → Errs E H ea.c_OutOfRange i) ∧ ∀ j : Nat, i = (j : Int) → j < z.length → ∀ (r : Option (Nat × Nat)) (D : Addr) (kvs : List (List Key × V)) (H' : Hp), Same H H' → LeastS (L.map (·.2)) z j r → H D = none → H' D = some (.dT kvs) → OthAt K H' kvs (dueM (L.map (·.2)) z n j r) → Q (.ref D) H'
theorem sc_single_places : FnScope ["house", "number", "index", "found", "text", "start", "stop"] ["house", "number", "index"] (defScope s_single_places) := ⟨rfl, rfl, rfl, by decide +kernel, rfl, by decide +kernel, by decide +kernel⟩
theorem ok_single_places (T : Txt K mg ea) (c_shortest_single : ClX P w K mg base 5 "shortest_single" (spSingle K ea)) (c_text_of : ClX P w K mg base 3 "text_of" (spTextOf K ea)) (c__asked_stretches : Cl P w K mg base 2 "_asked_stretches" (spAsked K)) (c__other_places : Cl P w K mg base 2 "_other_places" (spOtherP K)) :
    ClX P w K mg base 6 "single_places" (spSP K ea) := by
  have nd := sc_single_places.nd
  refine clx_of T.d_single_places sc_single_places (fun vs H Q E h => ?_) (fun f cdv A outer s H vs Q E hr h => ?_)
  · obtain ⟨a, L, n, i, rfl, _⟩ := h
    rfl
  · obtain ⟨a, L, n, i, rfl, hA, hl, hz, asc, hn, hi, e1, q⟩ := h
    refine ⟨_, (pss_cons (ps_set (i := 3) nd rfl (.inl rfl) (pe_cx c_shortest_single hr (by decide) (fun σ => passAt (takes_of rfl rfl rfl rfl) σ) (by rfl) (pa_cons (pv 0) (pa_cons (pv 1) (pa_cons (pv 2) pa_nil)))))
      (pss_cons (ps_set (i := 4) nd rfl (.inr rfl) (pe_cx c_text_of hr (by decide) (fun σ => passAt (takes_of rfl rfl rfl rfl) σ) (by rfl) (pa_cons (pv 0) (pa_cons (pv 1) pa_nil))))
      (pss_one (ps_ret (pe_dcT (own := [("start", 5), ("stop", 6)]) (g := (gTup K 2 (gCons (gName 5) (gCons (gName 6) gNil)))) (Nat.lt_of_succ_lt (hu_of hr)) rfl nd (pi_listK (K := K) (C8.pe_c c__asked_stretches hr (by decide) (by rfl) (pa_cons (pv 4) (pa_cons (pv 2) (pa_cons (pv 3) pa_nil))))) (blkOk_by (own := [("start", 5), ("stop", 6)]) (N := ["house", "number", "index", "found", "text", "start", "stop"]) (sc := defScope s_single_places) (by decide +kernel)) (fun _ _ _ _ _ => (pg_tup rfl (pgs_cons (pg_name (i := 5) nd rfl (.inl rfl)) (pgs_cons (pg_name (i := 6) nd rfl (.inl rfl)) pgs_nil)))) (fun _ _ _ _ _ => pts_nil) (fun _ _ _ _ _ => (pe_tup (pa_cons (pv 5) (pa_cons (pv 6) pa_nil)))) (fun _ _ _ _ _ => (pe_ix (ixl (K := K)) (C8.pe_c c__other_places hr (by decide) (by rfl) (pa_cons (pv 0) (pa_cons (pe_slice sl_str (pv 4) (po_some (pv 5)) (po_some (pv 6))) (pa_cons (pe_tup (pa_cons (pv 1) (pa_cons (pv 5) pa_nil))) pa_nil)))) pe_int (fun _ _ => rfl)))))))), ?_⟩
    refine ⟨_, rfl, _, rfl, _, rfl, a, L, n, i, rfl, hA, hl, hz, hn, hi, e1, fun z hzz => ⟨(q z hzz).1, fun j ej hj r v H1 s1 lst ats => ?_⟩⟩
    obtain ⟨_, q2⟩ := q z hzz
    have zl := lk_len hz hzz
    have zs : z.length ≤ sizeLine := Nat.le_trans zl (by decide)
    have hq := lk_mem hzz
    subst ej
    have hA1 := hA.same s1
    refine ⟨_, rfl, _, rfl, a, L, n, rfl, hA1, hn, fun z2 hz2 => ?_, fun e => by rw [hzz] at e; (first | cases e | exact nomatch e)⟩
    rw [hzz] at hz2
    obtain rfl := Option.some.inj hz2
    refine ⟨_, rfl, _, rfl, _, rfl, z, j, v, foI r, rfl, zl, hj, ats.fat, ?_, fun l R H2 s2 at2 hR er => ?_⟩
    · cases r with
      | none => trivial
      | some p =>
        obtain ⟨g1, g2, g3, _⟩ := lst.1
        show 0 ≤ (p.1 : Int) ∧ (p.1 : Int) ≤ (j : Int) ∧ (j : Int) < ((p.1 + p.2 : Nat) : Int) ∧ ((p.1 + p.2 : Nat) : Int) ≤ (z.length : Int)
        omega
    rw [ask_foI] at er
    refine ⟨l, rfl, ⟨_, SqL.of at2⟩, fun D nD => ?_⟩
    have rl : R.length = (askN z.length j (szO r)).length := by have := congrArg List.length er; rwa [List.length_map, List.length_map] at this
    refine turns_w (walk_list (K := K) (a := l) (xs := qrefs R)) (fun k H' => Same H2 H' ∧ ∃ kvs, H' D = some (.dT kvs) ∧ OthAt K H' kvs (((askN z.length j (szO r)).take k).map fun p => (pI p, fstO (L.map (·.2)) z n p))) ⟨same_new nD, [], upd_same, .nil⟩ (fun k H' hk hP => ?_) (fun k x H3 H4 hk hP y => ?_) (fun H3 hP => ?_)
    · exact SqL.of (hP.1 _ _ at2)
    · obtain ⟨s3, kvs, hD, ho⟩ := hP
      obtain ⟨rfl, hx⟩ := y
      obtain ⟨r1, hr1, rm, rfl⟩ := qrefs_at hx
      have hr2 : (R.map (·.2))[k]? = some r1.2 := by rw [List.getElem?_map, hr1]; rfl
      rw [er, List.getElem?_map] at hr2
      obtain ⟨p, hp, ep⟩ := Option.map_eq_some_iff.mp hr2
      obtain ⟨b1, b2, b3, b4, _⟩ := ask_mem hj (List.mem_of_getElem? hp)
      have tu := same_tup s3 (hR r1 rm)
      rw [← ep] at tu
      refine ⟨_, _, rfl, tu, rfl, _, _, rfl, _, _, rfl, rfl, rfl, ?_⟩
      have sz2 : 2 ≤ sizeLine := by decide
      refine ⟨_, rfl, _, rfl, sz2, fun t nt => ?_⟩
      have st := same_new (o := .tup [.int (pI p).1, .int (pI p).2]) nt
      have ht : (upd H4 t (.tup [.int (pI p).1, .int (pI p).2])) t = some (.tup ((k2 (pI p)).map kV)) := upd_same
      have sA := s1.trans (s2.trans (s3.trans st))
      have hD1 := st _ _ hD
      have ho1 := ho.same st
      generalize upd H4 t (.tup [.int (pI p).1, .int (pI p).2]) = H5 at st ht sA hD1 ho1 ⊢
      have cl := cutN_len (z := z) (a := p.1) (b := p.2) (by omega) b3
      refine ⟨_, rfl, _, rfl, _, rfl, _, rfl, _, rfl, _, rfl, z, rfl, zs, _, rfl, _, rfl, sz2, fun u nu => ?_⟩
      have su := same_new (o := .tup [.int n, .int (pI p).1]) nu
      refine ⟨a, L, cutN z p.1 p.2, .ref u, (n, (p.1 : Int)), rfl, hA.same (sA.trans su), hl, hz, by omega, ⟨u, rfl, SqT.of upd_same⟩, fun l2 R2 H6 s6 at6 hR6 er6 => ?_⟩
      have s56 := su.trans s6
      obtain ⟨y, r6, ey⟩ := ask_other asc hq hj lst (List.mem_of_getElem? hp)
      have ey2 : R2.map (·.2) = y :: r6 := er6.trans ey
      cases R2 with
      | nil => cases ey2
      | cons g R2 =>
        have eg : g.2 = y := (List.cons.inj ey2).1
        refine ⟨l2, _, _, _, rfl, rfl, SqL.of at6, atI_nat (j := 0) rfl, kvs, k2 (pI p), t, rfl, s56 _ _ ht, s56 _ _ hD1, ?_, ?_⟩
        · rw [othAt_len ho, List.length_map]
          exact Nat.lt_of_le_of_lt (Nat.le_trans (List.length_take_le' ..) (ask_len (j := j) zl (szO r))) (by decide)
        · refine ⟨same_mut (s3.trans (st.trans s56)) nD, _, upd_same, ?_⟩
          have pv : PrAt K H6 (.ref g.1) (fstO (L.map (·.2)) z n p) := ⟨g.1, rfl, by
            have := hR6 g (List.mem_cons_self ..)
            have e : fstO (L.map (·.2)) z n p = y := by unfold fstO; rw [ey]; rfl
            rw [e, ← eg]
            exact this⟩
          have := ((ho1.same s56).put (k := pI p) pv)
          rw [putM_new (askN_take hp)] at this
          have e2 : ((askN z.length j (szO r)).take (k + 1)).map (fun p => (pI p, fstO (L.map (·.2)) z n p)) = ((askN z.length j (szO r)).take k).map (fun p => (pI p, fstO (L.map (·.2)) z n p)) ++ [(pI p, fstO (L.map (·.2)) z n p)] := by
            rw [take_snoc hp, List.map_append]
            rfl
          rw [e2]
          exact this.but (s56 _ _ hD1) but_upd
    · obtain ⟨s3, kvs, hD, ho⟩ := hP
      rw [qrefs_len, rl, List.take_of_length_le (Nat.le_refl _)] at ho
      exact q2 j rfl hj r D kvs H3 (s1.trans (s2.trans s3)) lst ((s1.trans s2).free nD) hD ho
end

end SH
set_option Elab.async false
set_option linter.all false
set_option maxRecDepth 100000
set_option maxHeartbeats 4000000
namespace SH
open PySem PySem.Spec PyProof.Rows L2
section
variable {P : Program} {w : World} {K : PySem.W.Frag} {mg : Str → Option Value} {base : Heap} {ea : Ea}
theorem okF_in {h : List (Int × Str)} {z : Str} {j : Nat} : ∀ {o : Option (Int × Int)}, okF h z j o = true → InF z.length j o
  | none, _ => trivial
  | some (a, b), h => by
    have h : (decide (0 ≤ a ∧ a ≤ (j : Int) ∧ (j : Int) < b ∧ b ≤ (z.length : Int)) && _) = true := h
    rw [Bool.and_eq_true] at h
    exact of_decide_eq_true (p := 0 ≤ a ∧ a ≤ (j : Int) ∧ (j : Int) < b ∧ b ≤ (z.length : Int)) h.1
theorem askO_mem {len j : Nat} (hj : j < len) {o : Option (Int × Int)} {p : Nat × Nat} (h : p ∈ askO len j o) : p.1 ≤ j ∧ j < p.2 ∧ p.2 ≤ len ∧ p.1 < p.2 := by
  cases o with
  | none =>
    have := ask_mem (o := none) hj h
    exact ⟨this.1, this.2.1, this.2.2.1, this.2.2.2.1⟩
  | some q =>
    obtain ⟨x, y⟩ := q
    have := ask_mem (o := some (y - x).toNat) hj h
    exact ⟨this.1, this.2.1, this.2.2.1, this.2.2.2.1⟩
theorem all_take {α : Type} {f : α → Bool} {l : List α} {k : Nat} {p : α} (h : l[k]? = some p) (a : (l.take k).all f = true) : (l.take (k + 1)).all f = f p := by
  rw [take_snoc h, List.all_append, a]
  simp
theorem all_false {α : Type} {f : α → Bool} {l : List α} {p : α} (h : p ∈ l) (e : f p = false) : l.all f = false := by
  cases c : l.all f with
  | false => rfl
  | true => rw [List.all_eq_true.mp c p h] at e; cases e
def spCheckS (K : PySem.W.Frag) (ea : Ea) : Sp := fun vs H Q E => ∃ (a : Addr) (L : PL) (n i : Int) (v d : V), vs = [.ref a, .int n, .int i, v, d] ∧ HsAt K H a L ∧ L.length ≤ 8 ∧ (∀ q ∈ L, q.2.2.length ≤ 40) ∧ Small n ∧ Small i ∧ (lk n (L.map (·.2)) = none → Errs E H ea.c_NoText n) ∧
  ∀ z, lk n (L.map (·.2)) = some z → (¬ (0 ≤ i ∧ i < z.length) → Errs E H ea.c_OutOfRange i) ∧ ∀ j : Nat, i = (j : Int) → j < z.length → ∃ (o : Option (Int × Int)) (D : Addr) (kvs : List (List Key × V)) (M : MP), d = .ref D ∧ OAt K H v o ∧ H D = some (.dT kvs) ∧ OthAt K H kvs M ∧
    ∀ H', Same H H' → Q (.bl (dueB (L.map (·.2)) z n j o M)) H'
theorem sc_check_single : FnScope ["house", "number", "index", "found", "others", "text", "start", "stop"] ["house", "number", "index", "found", "others"] (defScope s_check_single) := ⟨rfl, rfl, rfl, by decide +kernel, rfl, by decide +kernel, by decide +kernel⟩
theorem ok_check_single (T : Txt K mg ea) (c_text_with_letter : ClX P w K mg base 4 "text_with_letter" (spTextL K ea)) (c__is_single_over : Cl P w K mg base 3 "_is_single_over" (spSover K)) (c__asked_stretches : Cl P w K mg base 2 "_asked_stretches" (spAsked K)) (c__other_places : Cl P w K mg base 2 "_other_places" (spOtherP K)) :
    ClX P w K mg base 5 "check_single" (spCheckS K ea) := by
  have nd := sc_check_single.nd
  refine clx_of T.d_check_single sc_check_single (fun vs H Q E h => ?_) (fun f cdv A outer s H vs Q E hr h => ?_)
  · obtain ⟨a, L, n, i, v, d, rfl, _⟩ := h
    rfl
  · obtain ⟨a, L, n, i, v, d, rfl, hA, hl, hz, hn, hi, e1, q⟩ := h
    refine ⟨_, (pss_cons (ps_set (i := 5) nd rfl (.inl rfl) (pe_cx c_text_with_letter hr (by decide) (fun σ => passAt (takes_of rfl rfl rfl rfl) σ) (by rfl) (pa_cons (pv 0) (pa_cons (pv 1) (pa_cons (pv 2) pa_nil)))))
      (C8.pss_cut (ps_if (PW.pt (pw_and (pt_cmpR op_notN (pv 3) pe_non (nomark _)) (pw_and1 (pt_not (pt_val (C8.pe_c c__is_single_over hr (by decide) (by rfl) (pa_cons (pv 0) (pa_cons (pv 5) (pa_cons (pv 2) (pa_cons (pv 3) pa_nil))))))))))
        (pss_one (ps_ret pe_bl))
        pss_nil)
      (pss_cons (ps_for (passes_of rfl) rfl (pi_listK (K := K) (C8.pe_c c__asked_stretches hr (by decide) (by rfl) (pa_cons (pv 5) (pa_cons (pv 2) (pa_cons (pv 3) pa_nil))))) (pg_tup rfl (pgs_cons (pg_name (i := 6) nd rfl (.inl rfl)) (pgs_cons (pg_name (i := 7) nd rfl (.inl rfl)) pgs_nil)))
        (pss_cons (ps_if (pt_cmp (pc_dnotin (hu_of hr) (pe_tup (pa_cons (pv 6) (pa_cons (pv 7) pa_nil))) (pv 4)))
            (pss_one (ps_ret pe_bl))
            pss_nil)
          (pss_one (ps_if (pt_cmpR (op_notInRK (K := K) hr) (pe_dget (hu_of hr) (pv 4) (pe_tup (pa_cons (pv 6) (pa_cons (pv 7) pa_nil))) (fun _ _ => rfl)) (C8.pe_c c__other_places hr (by decide) (by rfl) (pa_cons (pv 0) (pa_cons (pe_slice sl_str (pv 5) (po_some (pv 6)) (po_some (pv 7))) (pa_cons (pe_tup (pa_cons (pv 1) (pa_cons (pv 6) pa_nil))) pa_nil)))) (by rfl))
            (pss_one (ps_ret pe_bl))
            pss_nil))))
      (pss_one (ps_ret pe_bl))))), ?_⟩
    refine ⟨_, rfl, _, rfl, _, rfl, a, L, n, i, rfl, hA, hz, hn, hi, e1, fun z hzz => ⟨(q z hzz).1, fun hin => ?_⟩⟩
    obtain ⟨j, rfl⟩ : ∃ j : Nat, i = j := ⟨i.toNat, by omega⟩
    have hj : j < z.length := by omega
    obtain ⟨o, D, kvs, M, rfl, hv, hD, hO, q2⟩ := (q z hzz).2 j rfl hj
    have zl := lk_len hz hzz
    have zs : z.length ≤ sizeLine := Nat.le_trans zl (by decide)
    have no : okF (L.map (·.2)) z j o = false → ∀ H1, Same H H1 → Q (.bl false) H1 := fun e H1 s1 => by
      have := q2 H1 s1
      unfold dueB at this
      rw [e] at this
      exact this
    refine ⟨fun σ H1 => Same H H1 ∧ okF (L.map (·.2)) z j o = true ∧ σ = [some (.ref a), some (.int n), some (.int (j : Int)), some v, some (.ref D), some (.str z), none, none], ?_, ?_⟩
    · cases o with
      | none =>
        obtain rfl : v = .non := hv
        exact ⟨_, rfl, rfl, _, rfl, iteF (iteF ⟨Same.refl _, rfl, rfl⟩)⟩
      | some p =>
        obtain ⟨t, rfl, ht⟩ := hv
        refine ⟨_, rfl, rfl, _, rfl, iteT ?_⟩
        refine ⟨_, rfl, _, rfl, _, rfl, _, rfl, a, L, z, j, .ref t, p, rfl, hA, hl, hz, zl, ⟨t, rfl, ht⟩, fun H1 s1 => ?_⟩
        refine ⟨_, rfl, ?_⟩
        cases ok : okF (L.map (·.2)) z j (some p) with
        | true => exact iteF ⟨s1, rfl, rfl⟩
        | false => exact iteT (no ok H1 s1)
    · rintro σ H1 ⟨s1, ok, rfl⟩
      have hA1 := hA.same s1
      refine ⟨_, rfl, _, rfl, _, rfl, z, j, v, o, rfl, zl, hj, hv.same s1, okF_in ok, fun l R H2 s2 at2 hR er => ?_⟩
      refine ⟨l, rfl, ⟨_, SqL.of at2⟩, ?_⟩
      have s12 := s1.trans s2
      have rl : R.length = (askO z.length j o).length := by have := congrArg List.length er; rwa [List.length_map, List.length_map] at this
      have fin : ∀ b H3, Same H2 H3 → ((askO z.length j o).all (okP (L.map (·.2)) z n M)) = b → Q (.bl b) H3 := fun b H3 s3 e => by
        have := q2 H3 (s12.trans s3)
        unfold dueB at this
        rw [ok, e] at this
        exact this
      refine for_it (walk_list (K := K) (a := l) (xs := qrefs R)) (fun k σ H' => Same H2 H' ∧ ((askO z.length j o).take k).all (okP (L.map (·.2)) z n M) = true ∧ ∃ y6 y7 : Option V, σ = [some (.ref a), some (.int n), some (.int (j : Int)), some v, some (.ref D), some (.str z), y6, y7])
        ⟨Same.refl _, rfl, _, _, rfl⟩ (fun k σ H' _ hW => SqL.of (hW.1 _ _ at2)) (fun k x σ H3 H4 hk hW y => ?_) (fun σ H3 hW => ?_)
      · obtain ⟨s3, al, y6, y7, rfl⟩ := hW
        obtain ⟨rfl, hx⟩ := y
        obtain ⟨r1, hr1, rm, rfl⟩ := qrefs_at hx
        have hr2 : (R.map (·.2))[k]? = some r1.2 := by rw [List.getElem?_map, hr1]; rfl
        rw [er, List.getElem?_map] at hr2
        obtain ⟨p, hp, ep⟩ := Option.map_eq_some_iff.mp hr2
        have pm := List.mem_of_getElem? hp
        obtain ⟨b1, b2, b3, b4⟩ := askO_mem hj pm
        have tu := same_tup s3 (hR r1 rm)
        rw [← ep] at tu
        refine ⟨_, _, rfl, tu, rfl, _, _, rfl, _, _, rfl, rfl, ?_⟩
        have sz2 : 2 ≤ sizeLine := by decide
        refine ⟨_, rfl, _, rfl, sz2, fun t nt => ?_⟩
        have st := same_new (o := .tup [.int (pI p).1, .int (pI p).2]) nt
        have ht : (upd H4 t (.tup [.int (pI p).1, .int (pI p).2])) t = some (.tup ((k2 (pI p)).map kV)) := upd_same
        have s4 := s3.trans st
        generalize upd H4 t (.tup [.int (pI p).1, .int (pI p).2]) = H5 at st ht s4 ⊢
        have hD5 := (s12.trans s4) _ _ hD
        have hO5 := hO.same (s12.trans s4)
        have dg := DGet.t hD5 ht
        have bad : okP (L.map (·.2)) z n M p = false → ∀ H6, Same H2 H6 → Q (.bl false) H6 := fun e H6 s6 => fin false H6 s6 (all_false pm e)
        rcases hO5.look (pI p) with ⟨n1, n2⟩ | ⟨v1, p1, n1, n2, n3⟩
        · rw [n1] at dg
          refine ⟨_, rfl, D, _, rfl, dg, _, rfl, iteT (bad ?_ H5 s4)⟩
          unfold okP
          rw [n2]
        · rw [n1] at dg
          refine ⟨_, rfl, D, _, rfl, dg, _, rfl, iteF ?_⟩
          refine ⟨_, rfl, _, rfl, _, rfl, sz2, fun t2 nt2 => ?_⟩
          have st2 := same_new (o := .tup [.int (pI p).1, .int (pI p).2]) nt2
          have ht2 : (upd H5 t2 (.tup [.int (pI p).1, .int (pI p).2])) t2 = some (.tup ((k2 (pI p)).map kV)) := upd_same
          have s5 := s4.trans st2
          generalize upd H5 t2 (.tup [.int (pI p).1, .int (pI p).2]) = H6 at st2 ht2 s5 ⊢
          have dg2 := DGet.t (st2 _ _ hD5) ht2
          rw [n1] at dg2
          have cl := cutN_len (z := z) (a := p.1) (b := p.2) (by omega) b3
          refine ⟨D, v1, rfl, dg2, ?_⟩
          refine ⟨_, rfl, _, rfl, _, rfl, _, rfl, _, rfl, _, rfl, z, rfl, zs, _, rfl, _, rfl, sz2, fun u nu => ?_⟩
          have su := same_new (o := .tup [.int n, .int (pI p).1]) nu
          refine ⟨a, L, cutN z p.1 p.2, .ref u, (n, (p.1 : Int)), rfl, hA.same (s12.trans (s5.trans su)), hl, hz, by omega, ⟨u, rfl, SqT.of upd_same⟩, fun l2 R2 H7 s7 at7 hR7 er7 => ?_⟩
          have s57 := s5.trans (su.trans s7)
          have er8 : R2.map (·.2) = other (L.map (·.2)) z n p := er7
          refine ⟨dP2 p1, (R2.map (fun y : Addr × Int × Int => y.2)).map dP2, (n3.same (st2.trans (su.trans s7))).dp, dp_q (SqL.of at7) hR7, p2_shaped _, dQ_shaped _, ?_⟩
          rw [any_p2, er8]
          have eo : okP (L.map (·.2)) z n M p = decide (p1 ∈ other (L.map (·.2)) z n p) := by
            unfold okP
            rw [n2]
          rw [← eo]
          refine ⟨_, rfl, ?_⟩
          cases ok2 : okP (L.map (·.2)) z n M p with
          | false => exact iteT (bad ok2 H7 s57)
          | true => exact iteF ⟨s57, by rw [all_take hp al]; exact ok2, _, _, rfl⟩
      · obtain ⟨s3, al, y6, y7, rfl⟩ := hW
        rw [qrefs_len, rl, List.take_of_length_le (Nat.le_refl _)] at al
        exact fin true H3 s3 al
end

end SH
set_option Elab.async false
set_option linter.all false
set_option maxRecDepth 100000
set_option maxHeartbeats 4000000
namespace SH
open PySem PySem.Spec PyProof.Rows L2
section
variable {P : Program} {w : World} {K : PySem.W.Frag} {mg : Str → Option Value} {base : Heap} {ea : Ea}
/-- what is told where it is refused -/
def spTold22 (K : PySem.W.Frag) : Sp := fun vs H Q _ => ∃ (x : Int) (a : Addr) (L : PL) (n i : Int), vs = [.int x, .ref a, .int n, .int i] ∧ HsAt K H a L ∧ L.length ≤ 8 ∧ (∀ q ∈ L, q.2.2.length ≤ 40) ∧ ((L.map (·.2)).map (·.1)).Pairwise (· < ·) ∧ Small n ∧ Small i ∧ (∀ z, lk n (L.map (·.2)) = some z → ¬ (0 ≤ i ∧ i < z.length)) ∧
  ∀ (v : V) (H' : Hp) (p : Str × PyData), Same H H' → Due K H' v p → (lk n (L.map (·.2)) = none → p = ((("none" : Str)), PyData.int n)) → (∀ z, lk n (L.map (·.2)) = some z → p = ((("range" : Str)), PyData.int i)) → Q v H'
theorem sc__law_told : FnScope ["which", "house", "number", "index", "e"] ["which", "house", "number", "index"] (defScope s__law_told) := ⟨rfl, rfl, rfl, by decide +kernel, rfl, by decide +kernel, by decide +kernel⟩
theorem ok__law_told (T : Txt K mg ea) (c_single_places : ClX P w K mg base 6 "single_places" (spSP K ea)) (c_check_single : ClX P w K mg base 5 "check_single" (spCheckS K ea)) : Cl P w K mg base 7 "_law_told" (spTold22 K) := by
  have nd := sc__law_told.nd
  refine cl_of T.d__law_told sc__law_told (fun vs H Q E h => ?_) (fun f cdv A outer s H vs Q E hr h => ?_)
  · obtain ⟨x, a, L, n, i, rfl, _⟩ := h
    rfl
  · obtain ⟨x, a, L, n, i, rfl, hA, hl, hz, asc, hn, hi, bad, q⟩ := h
    refine ⟨_, (pss_one (ps_try_hds rfl rfl takes0 (fun W pn xe tk _ => (pss_cons (ps_if (pt_cmpR op_eq (pv 0) pe_int (nomark _))
            (pss_one (ps_ret (pe_cx c_single_places hr (by decide) (fun σ => passAt tk σ) (by rfl) (pa_cons (pv 1) (pa_cons (pv 2) (pa_cons (pv 3) pa_nil))))))
            pss_nil)
          (pss_one (ps_ret (pe_cx c_check_single hr (by decide) (fun σ => passAt tk σ) (by rfl) (pa_cons (pv 1) (pa_cons (pv 2) (pa_cons (pv 3) (pa_cons pe_non (pa_cons pe_dnewK pa_nil))))))))))
        (HdsN.named ⟨rfl, by decide, Or.inl T.x_NoText.g⟩ nd (i := 4) rfl rfl (fun a o c d l hz hf => (pss_one (ps_ret (pe_tup (pa_cons pe_str (pa_cons (pe_xf T.x_NoText.f T.x_NoText.no hz hf (pv 4)) pa_nil))))))
        (HdsN.named ⟨rfl, by decide, Or.inl T.x_OutOfRange.g⟩ nd (i := 4) rfl rfl (fun a o c d l hz hf => (pss_one (ps_ret (pe_tup (pa_cons pe_str (pa_cons (pe_xf T.x_OutOfRange.f T.x_OutOfRange.no hz hf (pv 4)) pa_nil))))))
        HdsN.nil)))), ?_⟩
    have sz : 2 ≤ sizeLine := by decide
    refine ⟨_, rfl, rfl, _, rfl, ite2 (fun c => ?_) (fun c => ?_)⟩
    · refine ⟨_, rfl, _, rfl, _, rfl, a, L, n, i, rfl, hA, hl, hz, asc, hn, hi, fun c1 d H2 s2 nd2 e3 => ?_, fun z hzz => ⟨fun _ d H2 s2 nd2 e3 => ?_, fun j e hj => absurd ⟨by omega, by omega⟩ (bad z hzz)⟩⟩
      · refine wHds_take T.e_NoText_NoText fun a0 na => ?_
        exact ⟨_, rfl, rfl, rfl, d, _, _, rfl, e3, rfl, sz, fun t nt => q _ _ (("none" : Str), PyData.int n) (s2.trans (same_new nt)) ⟨t, .int n, rfl, upd_same, .int n⟩ (fun _ => rfl) (fun z y => by rw [c1] at y; cases y)⟩
      · refine wHds_skip T.e_OutOfRange_NoText (wHds_take T.e_OutOfRange_OutOfRange fun a0 na => ?_)
        exact ⟨_, rfl, rfl, rfl, d, _, _, rfl, e3, rfl, sz, fun t nt => q _ _ (("range" : Str), PyData.int i) (s2.trans (same_new nt)) ⟨t, .int i, rfl, upd_same, .int i⟩ (fun y => by rw [hzz] at y; cases y) (fun _ _ => rfl)⟩
    · refine ⟨_, rfl, _, rfl, _, rfl, fun D nD => ?_⟩
      have s1 := same_new (o := .dK []) nD
      refine ⟨a, L, n, i, .non, .ref D, rfl, hA.same s1, hl, hz, hn, hi, fun c1 d H2 s2 nd2 e3 => ?_, fun z hzz => ⟨fun _ d H2 s2 nd2 e3 => ?_, fun j e hj => absurd ⟨by omega, by omega⟩ (bad z hzz)⟩⟩
      · refine wHds_take T.e_NoText_NoText fun a0 na => ?_
        exact ⟨_, rfl, rfl, rfl, d, _, _, rfl, e3, rfl, sz, fun t nt => q _ _ (("none" : Str), PyData.int n) (s1.trans (s2.trans (same_new nt))) ⟨t, .int n, rfl, upd_same, .int n⟩ (fun _ => rfl) (fun z y => by rw [c1] at y; cases y)⟩
      · refine wHds_skip T.e_OutOfRange_NoText (wHds_take T.e_OutOfRange_OutOfRange fun a0 na => ?_)
        exact ⟨_, rfl, rfl, rfl, d, _, _, rfl, e3, rfl, sz, fun t nt => q _ _ (("range" : Str), PyData.int i) (s1.trans (s2.trans (same_new nt))) ⟨t, .int i, rfl, upd_same, .int i⟩ (fun y => by rw [hzz] at y; cases y) (fun _ _ => rfl)⟩
/-- each that does not exist is refused -/
def spIsRef (K : PySem.W.Frag) : Sp := fun vs H Q _ => ∃ (dr a : Addr) (ds : List Int) (L : PL), vs = [.ref dr, .ref a] ∧ SqL K H dr (ds.map V.int) ∧ Dr ds ∧ HsAt K H a L ∧ L.length ≤ 8 ∧ IsHs 40 (L.map (·.2)) ∧ ∀ H', Same H H' → Q (.bl true) H'
theorem sc__law_is_refused : FnScope ["draws", "house", "number", "which", "other", "text", "index"] ["draws", "house"] (defScope s__law_is_refused) := ⟨rfl, rfl, rfl, by decide +kernel, rfl, by decide +kernel, by decide +kernel⟩
theorem ok__law_is_refused (T : Txt K mg ea) (c__law_mix : Cl P w K mg base 1 "_law_mix" (spDraw K)) (c__law_told : Cl P w K mg base 7 "_law_told" (spTold22 K)) : Cl P w K mg base 8 "_law_is_refused" (spIsRef K) := by
  have nd := sc__law_is_refused.nd
  refine cl_of T.d__law_is_refused sc__law_is_refused (fun vs H Q E h => ?_) (fun f cdv A outer s H vs Q E hr h => ?_)
  · obtain ⟨dr, a, ds, L, rfl, _⟩ := h
    rfl
  · obtain ⟨dr, a, ds, L, rfl, hS, hD, hA, hl, hh, q⟩ := h
    refine ⟨_, (pss_cons (ps_set (i := 2) nd rfl (.inl rfl) (pe_op op_add pe_int (C8.pe_c c__law_mix hr (by decide) (by rfl) (pa_cons (pv 0) (pa_cons pe_int (pa_cons pe_int pa_nil))))))
      (pss_cons (ps_for PassesOwn.never rfl (pi_range1 rfl T.b_range (pa_cons pe_int pa_nil)) (pg_name (i := 3) nd rfl (.inl rfl))
        (pss_cons (ps_if (pt_cmpR (op_neDK (K := K) hr.units) (C8.pe_c c__law_told hr (by decide) (by rfl) (pa_cons (pv 3) (pa_cons (pv 1) (pa_cons (pv 2) (pa_cons pe_int pa_nil))))) (pe_tup (pa_cons pe_str (pa_cons (pv 2) pa_nil))) (nomark _))
            (pss_one (ps_ret pe_bl))
            pss_nil)
          (pss_one (ps_for PassesOwn.never rfl (pi_listK (K := K) (pv 1)) (pg_tup rfl (pgs_cons (pg_name (i := 4) nd rfl (.inl rfl)) (pgs_cons (pg_name (i := 5) nd rfl (.inl rfl)) pgs_nil)))
            (pss_one (ps_for PassesOwn.never rfl (pi_listK (K := K) (pe_lst (pa_cons (pe_op op_sub (pe_un un_neg pe_int) (C8.pe_c c__law_mix hr (by decide) (by rfl) (pa_cons (pv 0) (pa_cons pe_int (pa_cons pe_int pa_nil))))) (pa_cons (pe_op op_add (pe_callB call_len_str (by rfl) T.b_len PySem.boot_len (pa_cons (pv 5) pa_nil)) (C8.pe_c c__law_mix hr (by decide) (by rfl) (pa_cons (pv 0) (pa_cons pe_int (pa_cons pe_int pa_nil))))) pa_nil)))) (pg_name (i := 6) nd rfl (.inl rfl))
                (pss_one (ps_if (pt_cmpR (op_neDK (K := K) hr.units) (C8.pe_c c__law_told hr (by decide) (by rfl) (pa_cons (pv 3) (pa_cons (pv 1) (pa_cons (pv 4) (pa_cons (pv 6) pa_nil))))) (pe_tup (pa_cons pe_str (pa_cons (pv 6) pa_nil))) (nomark _))
                    (pss_one (ps_ret pe_bl))
                    pss_nil))))))))
      (pss_one (ps_ret pe_bl)))), ?_⟩
    have sz : 2 ≤ sizeLine := by decide
    have aR : PyData.strOk ("range" : Str) = true := by decide +kernel
    have aT : PyData.strOk ("none" : Str) = true := by decide +kernel
    have hz : ∀ q ∈ L, q.2.2.length ≤ 40 := fun q hq => (hh.txt q.2 (List.mem_map_of_mem hq)).2
    have asc := hh.asc
    refine ⟨_, rfl, dr, ds, 4, 9, rfl, hS, hD, by omega, by omega, by omega, fun m m0 m1 => ?_⟩
    refine ⟨_, _, rfl, rfl, ?_⟩
    have nn : lk (100 + m) (L.map (·.2)) = none := lk_no fun h => by
      obtain ⟨y, hy, e⟩ := List.mem_map.mp h
      have := hh.num y hy
      omega
    refine ⟨2, rfl, by decide, by decide, ?_⟩
    refine for_range (lo := 0) (n := 2) (fun k σ H' => Same H H' ∧ ∃ y3 y4 y5 y6 : Option V, σ = [some (.ref dr), some (.ref a), some (.int (100 + m)), y3, y4, y5, y6])
      ⟨Same.refl _, _, _, _, _, rfl⟩ (fun k σ H1 hk hW => ?_) (fun σ H1 hW => ?_)
    · obtain ⟨s1, y3, y4, y5, y6, rfl⟩ := hW
      refine ⟨_, rfl, _, rfl, _, rfl, 0 + (k : Int), a, L, 100 + m, 99, rfl, hA.same s1, hl, hz, asc, small_of (by omega) (by omega), small_of (by omega) (by omega), fun z e => by rw [nn] at e; (first | cases e | exact nomatch e), fun v H2 p s2 dv p1 _ => ?_⟩
      have ep := p1 nn
      subst ep
      refine ⟨_, rfl, sz, fun t nt => ?_⟩
      have st := same_new (o := .tup [.str "none", .int (100 + m)]) nt
      have okr := dT_ok (p := (("none" : Str), PyData.int (100 + m))) aT (okd_int _)
      refine ⟨_, _, (dv.same st).dp, Due.dp ⟨t, .int (100 + m), rfl, upd_same, .int _⟩, okr.1, okr.1, ?_⟩
      rw [okr.2]
      have s3 := s1.trans (s2.trans st)
      generalize upd H2 t (.tup [.str "none", .int (100 + m)]) = H3 at s3 ⊢
      refine ⟨_, rfl, iteF ?_⟩
      have hA3 := hA.same s3
      refine ⟨_, rfl, a, rfl, ⟨_, hA3.1⟩, ?_⟩
      refine for_it (walk_list (K := K) (a := a) (xs := refs L)) (fun i σ H' => Same H H' ∧ ∃ y4 y5 y6 : Option V, σ = [some (.ref dr), some (.ref a), some (.int (100 + m)), some (.int (0 + (k : Int))), y4, y5, y6])
        ⟨s3, _, _, _, rfl⟩ (fun i σ H' _ hW => hW.1.seq hA.1) (fun i x σ H6 H7 hi hW y => ?_) (fun σ H6 hW => ?_)
      · obtain ⟨s6, y4, y5, y6, rfl⟩ := hW
        obtain ⟨rfl, hx⟩ := y
        obtain ⟨t, ht, tm, rfl⟩ := refs_at hx
        have tl := hz t tm
        have tz : t.2.2.length ≤ sizeLine := Nat.le_trans tl (by decide)
        have sN : Small t.2.1 := by
          have := hh.num t.2 (List.mem_map_of_mem tm)
          exact small_of (by omega) (by omega)
        have hlk : lk t.2.1 (L.map (·.2)) = some t.2.2 := lk_of asc (List.mem_map.mpr ⟨t, tm, rfl⟩)
        refine ⟨_, _, rfl, same_tup s6 (hA.2 t tm), rfl, _, _, rfl, _, _, rfl, rfl, ?_⟩
        repeat (first | refine ⟨_, rfl, ?_⟩ | refine ⟨rfl, ?_⟩ | refine ⟨_, _, rfl, rfl, ?_⟩ | refine ⟨_, _, _, rfl, rfl, ?_⟩)
        refine ⟨dr, ds, 5, 3, rfl, s6.seq hS, hD, by omega, by omega, by omega, fun g g0 g1 => ?_⟩
        refine ⟨_, _, rfl, rfl, ?_⟩
        refine ⟨_, rfl, t.2.2, rfl, tz, ?_⟩
        repeat (first | refine ⟨_, rfl, ?_⟩ | refine ⟨rfl, ?_⟩ | refine ⟨_, _, rfl, rfl, ?_⟩ | refine ⟨_, _, _, rfl, rfl, ?_⟩)
        refine ⟨dr, ds, 5, 3, rfl, s6.seq hS, hD, by omega, by omega, by omega, fun g2 g20 g21 => ?_⟩
        refine ⟨_, _, rfl, rfl, sz, fun l nl => ?_⟩
        have sl := same_new (o := .lst (([-1 - g, (t.2.2.length : Int) + g2] : List Int).map V.int)) nl
        refine ⟨l, rfl, ⟨_, SqL.of upd_same⟩, ?_⟩
        have atl : (upd H7 l (.lst (([-1 - g, (t.2.2.length : Int) + g2] : List Int).map V.int))) l = some (.lst (([-1 - g, (t.2.2.length : Int) + g2] : List Int).map V.int)) := upd_same
        refine for_it (walk_list (K := K) (a := l) (xs := ([-1 - g, (t.2.2.length : Int) + g2] : List Int).map V.int)) (fun k2 σ H' => Same H H' ∧ H' l = some (.lst (([-1 - g, (t.2.2.length : Int) + g2] : List Int).map V.int)) ∧ ∃ y6 : Option V, σ = [some (.ref dr), some (.ref a), some (.int (100 + m)), some (.int (0 + (k : Int))), some (.int t.2.1), some (.str t.2.2), y6])
          ⟨s6.trans sl, atl, _, rfl⟩ (fun k σ H' _ hW => SqL.of hW.2.1) (fun k2 x σ H9 H10 hk hW y => ?_) (fun σ H9 hW => ?_)
        · obtain ⟨s9, at9, y6, rfl⟩ := hW
          obtain ⟨rfl, hx⟩ := y
          rw [List.getElem?_map] at hx
          obtain ⟨i2, hn, rfl⟩ : ∃ n : Int, n ∈ ([-1 - g, (t.2.2.length : Int) + g2] : List Int) ∧ x = .int n := by
            cases e : ([-1 - g, (t.2.2.length : Int) + g2] : List Int)[k2]? with
            | none => rw [e] at hx; cases hx
            | some n => rw [e] at hx; exact ⟨n, List.mem_of_getElem? e, (Option.some.inj hx).symm⟩
          have nb : ¬ (0 ≤ i2 ∧ i2 < (t.2.2.length : Int)) ∧ -100 ≤ i2 ∧ i2 ≤ 100000 := by
            simp only [List.mem_cons, List.not_mem_nil, or_false] at hn
            rcases hn with e | e <;> rw [e] <;> omega
          refine ⟨_, rfl, _, rfl, _, rfl, _, rfl, 0 + (k : Int), a, L, t.2.1, i2, rfl, hA.same s9, hl, hz, asc, sN, small_of (by omega) (by omega), fun z hzz => ?_, fun v H11 pp s11 due p1 p2 => ?_⟩
          · rw [hlk] at hzz
            obtain rfl := Option.some.inj hzz
            exact nb.1
          · obtain rfl := p2 _ hlk
            refine ⟨_, rfl, sz, fun u nu => ?_⟩
            have su := same_new (o := .tup [.str "range", .int i2]) nu
            have okr := dT_ok (p := (("range" : Str), PyData.int i2)) aR (okd_int i2)
            refine ⟨_, _, (due.same su).dp, Due.dp ⟨u, .int i2, rfl, upd_same, .int i2⟩, okr.1, okr.1, ?_⟩
            rw [okr.2]
            exact ⟨_, rfl, iteF ⟨s9.trans (s11.trans su), su _ _ (s11 _ _ at9), _, rfl⟩⟩
        · obtain ⟨s9, at9, y6, rfl⟩ := hW
          exact ⟨s9, _, _, _, rfl⟩
      · obtain ⟨s6, y4, y5, y6, rfl⟩ := hW
        exact ⟨s6, _, _, _, _, rfl⟩
    · obtain ⟨s1, y3, y4, y5, y6, rfl⟩ := hW
      exact q H1 s1
end

end SH
set_option Elab.async false
set_option linter.all false
set_option maxRecDepth 100000
set_option maxHeartbeats 4000000
namespace SH
open PySem PySem.Spec PyProof.Rows L2
section
variable {P : Program} {w : World} {K : PySem.W.Frag} {mg : Str → Option Value} {base : Heap} {ea : Ea}
/-- the places of a word -/
def spLPl (K : PySem.W.Frag) : Sp := fun vs H Q _ => ∃ (a : Addr) (L : PL) (z : Str), vs = [.ref a, .str z] ∧ HsAt K H a L ∧ L.length ≤ 8 ∧ (∀ q ∈ L, q.2.2.length ≤ 40) ∧ z.length ≤ 1000 ∧
  ∀ (l : Addr) (R : QT) (H' : Hp), Same H H' → H l = none → H' l = some (.lst (qrefs R)) → QAt K H' R → R.map (·.2) = plc (L.map (·.2)) z → Q (.ref l) H'
theorem sc__law_places : FnScope ["house", "word", "found", "number", "text", "start"] ["house", "word"] (defScope s__law_places) := ⟨rfl, rfl, rfl, by decide +kernel, rfl, by decide +kernel, by decide +kernel⟩
theorem ok__law_places (T : Txt K mg ea) : Cl P w K mg base 1 "_law_places" (spLPl K) := by
  have nd := sc__law_places.nd
  refine cl_of T.d__law_places sc__law_places (fun vs H Q E h => ?_) (fun f cdv A outer s H vs Q E hr h => ?_)
  · obtain ⟨a, L, z, rfl, _⟩ := h
    rfl
  · obtain ⟨a, L, z, rfl, hA, l8, t40, zl0, q⟩ := h
    refine ⟨_, (pss_cons (ps_set (i := 2) nd rfl (.inl rfl) (pe_lst pa_nil))
      (pss_cons (ps_for PassesOwn.never rfl (pi_listK (K := K) (pv 0)) (pg_tup rfl (pgs_cons (pg_name (i := 3) nd rfl (.inl rfl)) (pgs_cons (pg_name (i := 4) nd rfl (.inl rfl)) pgs_nil)))
        (pss_one (ps_for PassesOwn.never rfl (pi_range1 rfl T.b_range (pa_cons (pe_op op_add (pe_op op_sub (pe_callB call_len_str (by rfl) T.b_len PySem.boot_len (pa_cons (pv 4) pa_nil)) (pe_callB call_len_str (by rfl) T.b_len PySem.boot_len (pa_cons (pv 1) pa_nil))) pe_int) pa_nil)) (pg_name (i := 5) nd rfl (.inl rfl))
            (pss_one (ps_if (pt_cmpR op_eq (pe_slice sl_str (pv 4) (po_some (pv 5)) (po_some (pe_op op_add (pv 5) (pe_callB call_len_str (by rfl) T.b_len PySem.boot_len (pa_cons (pv 1) pa_nil))))) (pv 1) (nomark _))
                (pss_one (ps_expr (pe_bm PySem.F.plainAttrs_list PySem.F.slot_list_append PySem.F.type_list_append mt_append (pv 2) (pa_cons (pe_tup (pa_cons (pv 3) (pa_cons (pv 5) pa_nil))) pa_nil))))
                pss_nil)))))
      (pss_one (ps_ret (pv 2))))), ?_⟩
    have rl := refs_len L
    have big : ∀ i, (plc ((L.map (·.2)).take i) z).length ≤ 50500 := fun i => by
      refine Nat.le_trans (plc_len (m := 100) fun q hq => ?_) (by have := List.length_take_le' i (L.map (·.2)); rw [List.length_map] at this; omega)
      obtain ⟨y, hy, rfl⟩ := List.mem_map.mp (List.mem_of_mem_take hq)
      exact Nat.le_trans (t40 y hy) (by decide)
    refine ⟨Nat.zero_le _, fun l nl => ?_⟩
    have s1 := same_new (o := .lst []) nl
    refine ⟨_, rfl, a, rfl, ⟨_, s1.seq hA.1⟩, ?_⟩
    refine for_it (walk_list (K := K) (a := a) (xs := refs L)) (fun i σ H' => ∃ (R : QT) (y3 y4 y5 : Option V), Same H H' ∧ H' l = some (.lst (qrefs R)) ∧ QAt K H' R ∧ R.map (·.2) = plc ((L.map (·.2)).take i) z ∧ σ = [some (.ref a), some (.str z), some (.ref l), y3, y4, y5])
      ⟨[], none, none, none, s1, upd_same, (fun x m => nomatch m), rfl, rfl⟩ (fun i σ H' _ hW => ?_) (fun i x σ Ha Hb hi hX y => ?_) (fun σ H' hX => ?_)
    · obtain ⟨R, y3, y4, y5, sm, _⟩ := hW
      exact sm.seq hA.1
    · obtain ⟨R, y3, y4, y5, sm, at_, za, ze, rfl⟩ := hX
      obtain ⟨rfl, hx⟩ := y
      obtain ⟨t, ht, tm, rfl⟩ := refs_get hx
      have tl := t40 t tm
      have ht2 : (L.map (·.2))[i]? = some t.2 := by rw [List.getElem?_map, ht]; rfl
      have tk := take_snoc ht2
      refine ⟨_, _, rfl, same_tup sm (hA.2 t tm), rfl, _, _, rfl, _, _, rfl, rfl, ?_⟩
      refine ⟨_, rfl, t.2.2, rfl, Nat.le_trans tl (by decide), _, rfl, z, rfl, Nat.le_trans zl0 (by decide), _, _, rfl, rfl, _, _, rfl, rfl, _, rfl, by omega, by omega, ?_⟩
      have en : ((t.2.2.length : Int) - (z.length : Int) + 1).toNat = t.2.2.length + 1 - z.length := by omega
      refine for_range (lo := 0) (n := ((t.2.2.length : Int) - (z.length : Int) + 1).toNat) (fun j σ H' => ∃ (R : QT) (y5 : Option V), σ = [some (.ref a), some (.str z), some (.ref l), some (.int t.2.1), some (.str t.2.2), y5] ∧ Same H H' ∧ H' l = some (.lst (qrefs R)) ∧ QAt K H' R ∧ R.map (·.2) = plc ((L.map (·.2)).take i) z ++ ((List.range j).filter (standsP z t.2.2)).map fun s : Nat => (t.2.1, (s : Int)))
        ⟨R, y5, rfl, sm, at_, za, by rw [ze]; simp⟩ (fun j σ H2 hj hW => ?_) (fun σ H1 hW => ?_)
      · obtain ⟨R, y5, rfl, sm, at_, za, ze⟩ := hW
        have e0 : (0 : Int) + (j : Int) = (j : Int) := Int.zero_add _
        rw [e0]
        rw [en] at hj
        refine ⟨_, rfl, _, rfl, j, rfl, _, rfl, _, rfl, z, rfl, Nat.le_trans zl0 (by decide), _, _, rfl, rfl, _, rfl, t.2.2, rfl, Nat.le_trans tl (by decide), _, rfl, rfl, _, rfl, ?_⟩
        have cv : decide (V.str (cutS t.2.2 (some (j : Int)) (some ((j : Int) + (z.length : Int)))) = V.str z) = standsP z t.2.2 j := decide_eq_decide.mpr (by
          rw [← cut_mid (by omega)]
          exact ⟨fun h => by rw [V.str.inj h], fun h => by rw [str_ext h]⟩)
        rw [cv]
        have sn : (List.range (j + 1)).filter (standsP z t.2.2) = (List.range j).filter (standsP z t.2.2) ++ if standsP z t.2.2 j = true then [j] else [] := by
          rw [List.range_succ, List.filter_append]
          congr 1
          by_cases c : standsP z t.2.2 j = true
          · rw [if_pos c, List.filter_cons_of_pos c]; rfl
          · rw [if_neg c, List.filter_cons_of_neg c]; rfl
        refine ite2 (fun e => ?_) (fun e => ?_)
        · refine ⟨_, rfl, .inl ⟨rfl, _, SqL.of at_⟩, _, rfl, _, rfl, (by show 2 ≤ sizeLine; decide), fun u nu => ?_⟩
          have s2 := same_new (o := .tup [.int t.2.1, .int (j : Int)]) nu
          have at2 := s2 _ _ at_
          have zl : R.length ≤ 60000 := by
            have e := congrArg List.length ze
            rw [List.length_map, List.length_append, List.length_map] at e
            have b1 := List.length_filter_le (standsP z t.2.2) (List.range j)
            rw [List.length_range] at b1
            have := big i
            omega
          refine ⟨l, _, _, rfl, rfl, at2, ?_, R ++ [(u, t.2.1, (j : Int))], _, rfl, same_mut (sm.trans s2) nl, ?_, ?_, ?_⟩
          · rw [qrefs_len]
            exact Nat.lt_of_le_of_lt zl (by decide)
          · rw [upd_same]
            show _ = some (HO.lst (List.map _ _))
            rw [List.map_append]
            rfl
          · refine QAt.put (l := qrefs R) (fun y hy => ?_) at2
            rcases List.mem_append.mp hy with m | m
            · exact same_tup s2 (za y m)
            · rw [List.mem_singleton.mp m]
              exact .inl (.inl upd_same)
          · rw [List.map_append, ze, sn, if_pos e, List.map_append, List.append_assoc]
            rfl
        · refine ⟨R, _, rfl, sm, at_, za, ?_⟩
          rw [ze, sn, if_neg e, List.append_nil]
      · obtain ⟨R, y5, rfl, sm, at_, za, ze⟩ := hW
        refine ⟨R, _, _, _, sm, at_, za, ?_, rfl⟩
        rw [ze, tk, plc_snoc, en, plcOf_cut]
    · obtain ⟨R, y3, y4, y5, sm, at_, za, ze, rfl⟩ := hX
      rw [List.take_of_length_le (by rw [List.length_map, rl]; exact Nat.le_refl _)] at ze
      exact ⟨_, rfl, q l R H' sm nl at_ za ze⟩
end

end SH
set_option Elab.async false
set_option linter.all false
set_option maxRecDepth 100000
set_option maxHeartbeats 4000000
namespace SH
open PySem PySem.Spec PyProof.Rows L2
section
variable {P : Program} {w : World} {K : PySem.W.Frag} {mg : Str → Option Value} {base : Heap} {ea : Ea}
/-- the dict that is due -/
def spLOth (K : PySem.W.Frag) : Sp := fun vs H Q _ => ∃ (a : Addr) (L : PL) (n : Int) (z : Str) (j : Nat) (v : V) (r : Option (Nat × Nat)), vs = [.ref a, .int n, .int j, v] ∧ HsAt K H a L ∧ L.length ≤ 8 ∧ (∀ q ∈ L, q.2.2.length ≤ 40) ∧ ((L.map (·.2)).map (·.1)).Pairwise (· < ·) ∧ lk n (L.map (·.2)) = some z ∧ j < z.length ∧ AtS K H v r ∧ LeastS (L.map (·.2)) z j r ∧
  ∀ (D : Addr) (kvs : List (List Key × V)) (H' : Hp), Same H H' → H D = none → H' D = some (.dT kvs) → OthAt K H' kvs (dueM (L.map (·.2)) z n j r) → Q (.ref D) H'
theorem sc__law_others : FnScope ["house", "number", "index", "found", "text", "others", "start", "stop", "places_v", "place"] ["house", "number", "index", "found"] (defScope s__law_others) := ⟨rfl, rfl, rfl, by decide +kernel, rfl, by decide +kernel, by decide +kernel⟩
theorem ok__law_others (T : Txt K mg ea) (c__law_named : Cl P w K mg base 1 "_law_named" (spAsked K)) (c__law_places : Cl P w K mg base 1 "_law_places" (spLPl K)) : Cl P w K mg base 2 "_law_others" (spLOth K) := by
  have nd := sc__law_others.nd
  refine cl_of T.d__law_others sc__law_others (fun vs H Q E h => ?_) (fun f cdv A outer s H vs Q E hr h => ?_)
  · obtain ⟨a, L, n, z, j, v, r, rfl, _⟩ := h
    rfl
  · obtain ⟨a, L, n, z, j, v, r, rfl, hA, hl, hz, asc, hzz, hj, ats, lst, q⟩ := h
    refine ⟨_, (pss_cons (ps_set (i := 4) nd rfl (.inl rfl) (pe_dget (hu_of hr) (pe_callTy (call_dictP rfl) (by rfl) T.b_dict (by decide +kernel) (pa_cons (pv 0) pa_nil)) (pv 1) (fun _ _ => rfl)))
      (pss_cons (ps_set (i := 5) nd rfl (.inl rfl) pe_dnewT)
      (pss_cons (ps_for PassesOwn.never rfl (pi_listK (K := K) (C8.pe_c c__law_named hr (by decide) (by rfl) (pa_cons (pv 4) (pa_cons (pv 2) (pa_cons (pv 3) pa_nil))))) (pg_tup rfl (pgs_cons (pg_name (i := 6) nd rfl (.inr rfl)) (pgs_cons (pg_name (i := 7) nd rfl (.inl rfl)) pgs_nil)))
        (pss_cons (ps_setLc (i := 8) (own := [("place", 9)]) (g := (gName 9)) rfl nd rfl rfl (sw_true rfl rfl rfl (by decide +kernel)) (pi_listK (K := K) (C8.pe_c c__law_places hr (by decide) (by rfl) (pa_cons (pv 0) (pa_cons (pe_slice sl_str (pv 4) (po_some (pv 6)) (po_some (pv 7))) pa_nil)))) (blkOk_by (own := [("place", 9)]) (N := ["house", "number", "index", "found", "text", "others", "start", "stop", "places_v", "place"]) (sc := defScope s__law_others) (by decide +kernel)) (fun _ _ _ _ _ => (pg_name (i := 9) nd rfl (.inl rfl))) (fun _ _ _ _ _ => pts_one (pt_cmpR (op_neDK (K := K) hr.units) (pv 9) (pe_tup (pa_cons (pv 1) (pa_cons (pv 6) pa_nil))) (nomark _))) (fun _ _ _ _ _ => (pv 9)))
          (pss_one (ps_dput (hu_of hr) (pv 5) (pe_tup (pa_cons (pv 6) (pa_cons (pv 7) pa_nil))) (pe_ix (ixl (K := K)) (pv 8) pe_int (fun _ _ => rfl)) rfl))))
      (pss_one (ps_ret (pv 5)))))), ?_⟩
    have zl := lk_len hz hzz
    have zs : z.length ≤ sizeLine := Nat.le_trans zl (by decide)
    have hq := lk_mem hzz
    have eps : refs L = (L.map (·.1)).map V.ref := by rw [List.map_map]; rfl
    refine ⟨_, rfl, a, L.map (fun q : Addr × Int × Str => q.1), L.map fun q : Addr × Int × Str => ((Sum.inl q.2.1 : Key), V.str q.2.2), rfl, by rw [← eps]; exact hA.1, Dct.paired_house hA.2, fun dT ndT => ?_⟩
    have s1 := same_new (o := .dK (mergeK [] (L.map fun q => ((Sum.inl q.2.1 : Key), V.str q.2.2)))) ndT
    have dg : DGet (upd H dT (.dK (mergeK [] (L.map fun q => ((Sum.inl q.2.1 : Key), V.str q.2.2))))) dT (.int n) (some (.str z)) := by
      have := DGet.k (k := .inl n) (upd_same (H := H) (a := dT) (o := .dK (mergeK [] (L.map fun q => ((Sum.inl q.2.1 : Key), V.str q.2.2)))))
      rw [lk_val asc, hzz] at this
      exact this
    refine ⟨_, rfl, dT, _, rfl, dg, ?_⟩
    generalize upd H dT (.dK (mergeK [] (L.map fun q => ((Sum.inl q.2.1 : Key), V.str q.2.2)))) = H1 at s1 ⊢
    refine fun D nD => ?_
    have s2 := s1.trans (same_new (o := .dT []) nD)
    have hD2 : (upd H1 D (.dT [])) D = some (.dT []) := upd_same
    generalize upd H1 D (.dT []) = H2 at s2 hD2 ⊢
    refine ⟨_, rfl, _, rfl, _, rfl, z, j, v, foI r, rfl, zl, hj, (ats.same s2).fat, ?_, fun l R H3 s3 at3 hR er => ?_⟩
    · cases r with
      | none => trivial
      | some p =>
        obtain ⟨g1, g2, g3, _⟩ := lst.1
        show 0 ≤ (p.1 : Int) ∧ (p.1 : Int) ≤ (j : Int) ∧ (j : Int) < ((p.1 + p.2 : Nat) : Int) ∧ ((p.1 + p.2 : Nat) : Int) ≤ (z.length : Int)
        omega
    rw [ask_foI] at er
    have s13 := s2.trans s3
    have nD0 : H D = none := s1.free nD
    have rl : R.length = (askN z.length j (szO r)).length := by have := congrArg List.length er; rwa [List.length_map, List.length_map] at this
    refine ⟨l, rfl, ⟨_, SqL.of at3⟩, ?_⟩
    refine for_it (walk_list (K := K) (a := l) (xs := qrefs R)) (fun k σ H' => Same H H' ∧ H' l = some (.lst (qrefs R)) ∧ QAt K H' R ∧ (∃ kvs, H' D = some (.dT kvs) ∧ OthAt K H' kvs (((askN z.length j (szO r)).take k).map fun p => (pI p, fstO (L.map (·.2)) z n p))) ∧ ∃ y6 y7 y8 y9 : Option V, σ = [some (.ref a), some (.int n), some (.int (j : Int)), some v, some (.str z), some (.ref D), y6, y7, y8, y9])
      ⟨s13, at3, hR, ⟨[], s3 _ _ hD2, .nil⟩, _, _, _, _, rfl⟩ (fun k σ H' _ hW => SqL.of hW.2.1) (fun k x σ H4 H5 hk hW y => ?_) (fun σ H4 hW => ?_)
    · obtain ⟨s4, at4, hR4, ⟨kvs, hD, ho⟩, y6, y7, y8, y9, rfl⟩ := hW
      obtain ⟨rfl, hx⟩ := y
      obtain ⟨r1, hr1, rm, rfl⟩ := qrefs_at hx
      have hr2 : (R.map (·.2))[k]? = some r1.2 := by rw [List.getElem?_map, hr1]; rfl
      rw [er, List.getElem?_map] at hr2
      obtain ⟨p, hp, ep⟩ := Option.map_eq_some_iff.mp hr2
      obtain ⟨b1, b2, b3, b4, _⟩ := ask_mem hj (List.mem_of_getElem? hp)
      have tu := hR4 r1 rm
      rw [← ep] at tu
      refine ⟨_, _, rfl, tu, rfl, _, _, rfl, _, _, rfl, rfl, ?_⟩
      have cl := cutN_len (z := z) (a := p.1) (b := p.2) (by omega) b3
      refine ⟨_, rfl, _, rfl, _, rfl, _, rfl, _, rfl, _, rfl, z, rfl, zs, a, L, cutN z p.1 p.2, rfl, hA.same s4, hl, hz, by omega, fun l2 R2 H6 s6 nl2 at6 hR6 er6 => ?_⟩
      have s46 := s4.trans s6
      have rl2 : R2.length ≤ 400 := by
        have e := congrArg List.length er6
        rw [List.length_map] at e
        have := plc_few (w := cutN z p.1 p.2) (h := L.map (·.2)) (by rw [List.length_map]; exact hl) (PL_few hz)
        omega
      refine ⟨l2, rfl, ⟨_, SqL.of at6⟩, fun D2 nD2 => ?_⟩
      refine lc_w (walk_list (xs := qrefs R2)) nD2 (by rw [qrefs_len]; omega) (fun H' e => SqL.of (e _ _ at6)) (fun k acc _ => acc = qrefs ((R2.take k).filter fun x => decide (x.2 ≠ (n, (p.1 : Int))))) (fun _ _ => rfl) (fun _ _ _ _ _ _ _ r => r) (fun i H x H' y => by rw [y.1]; exact Same.refl _) (fun k2 x acc Ha Hb Qn Qf hk2 sm y r at_ kn kf => ?_) (fun acc H7 s7 at7 _ r7 => ?_)
      · obtain ⟨rfl, hx⟩ := y
        obtain ⟨r2, hr2, rm2, rfl⟩ := qrefs_at hx
        subst r
        have sn : (R2.take (k2 + 1)).filter (fun x => decide (x.2 ≠ (n, (p.1 : Int)))) = (R2.take k2).filter (fun x => decide (x.2 ≠ (n, (p.1 : Int)))) ++ if r2.2 = (n, (p.1 : Int)) then [] else [r2] := by
          rw [take_snoc hr2, List.filter_append]
          congr 1
          by_cases h : r2.2 = (n, (p.1 : Int))
          · rw [if_pos h, List.filter_cons_of_neg (by simp [h])]; rfl
          · rw [if_neg h, List.filter_cons_of_pos (by simp [h])]; rfl
        refine ⟨rfl, _, rfl, _, rfl, _, rfl, (by show 2 ≤ sizeLine; decide), fun u nu => ?_⟩
        have su := same_new (o := .tup [.int n, .int (pI p).1]) nu
        have pr : PrAt K _ (.ref r2.1) r2.2 := ⟨r2.1, rfl, same_tup (sm.trans su) (hR6 r2 rm2)⟩
        have po : PrAt K (upd Hb u (.tup [.int n, .int (pI p).1])) (.ref u) (n, (p.1 : Int)) := ⟨u, rfl, SqT.of upd_same⟩
        refine ⟨dP2 r2.2, dP2 (n, (p.1 : Int)), pr.dp, po.dp, p2_shaped _, p2_shaped _, ?_⟩
        rw [eqv_p2]
        refine ⟨_, rfl, ?_⟩
        by_cases h : r2.2 = (n, (p.1 : Int))
        · rw [decide_eq_true h]
          exact iteF (kf _ su (by rw [sn, if_pos h, List.append_nil]))
        · rw [decide_eq_false h]
          refine iteT ⟨_, rfl, kn _ _ su (by rw [sn, if_neg h]; unfold qrefs; rw [List.map_append]; rfl)⟩
      · subst r7
        rw [qrefs_len, List.take_of_length_le (Nat.le_refl _)] at at7
        generalize eS : (R2.filter fun x => decide (x.2 ≠ (n, (p.1 : Int)))) = S at at7
        have eS2 : S.map (·.2) = other (L.map (·.2)) z n p := by
          rw [← eS]
          show _ = (plc (L.map (·.2)) (cutN z p.1 p.2)).filter _
          rw [← er6, List.filter_map]
          rfl
        obtain ⟨y, t6, ey⟩ := ask_other asc hq hj lst (List.mem_of_getElem? hp)
        rw [ey] at eS2
        cases S with
        | nil => cases eS2
        | cons g S =>
          have eg : g.2 = y := (List.cons.inj eS2).1
          have gm : g ∈ R2 := (List.mem_filter.mp (by rw [eS]; exact List.mem_cons_self ..)).1
          have s67 := s6.trans s7
          refine ⟨_, rfl, D2, _, _, _, rfl, rfl, SqL.of at7, atI_nat (j := 0) rfl, _, rfl, _, rfl, _, rfl, (by show 2 ≤ sizeLine; decide), fun t nt => ?_⟩
          have st := same_new (o := .tup [.int (pI p).1, .int (pI p).2]) nt
          have ht : (upd H7 t (.tup [.int (pI p).1, .int (pI p).2])) t = some (.tup ((k2 (pI p)).map kV)) := upd_same
          have s48 := s67.trans st
          generalize upd H7 t (.tup [.int (pI p).1, .int (pI p).2]) = H8 at st ht s48 ⊢
          have hD8 := s48 _ _ hD
          refine ⟨D, _, rfl, DPut.t hD8 ht (by rw [othAt_len ho, List.length_map]; exact Nat.lt_of_le_of_lt (Nat.le_trans (List.length_take_le' ..) (ask_len (j := j) zl (szO r))) (by decide)), ?_⟩
          have lD : l ≠ D := fun e => by rw [e, hD] at at4; cases at4
          have pv : PrAt K H8 (.ref g.1) (fstO (L.map (·.2)) z n p) := ⟨g.1, rfl, by
            have := same_tup (s7.trans st) (hR6 g gm)
            have e : fstO (L.map (·.2)) z n p = y := by unfold fstO; rw [ey]; rfl
            rw [e, ← eg]
            exact this⟩
          have ho8 := ((ho.same s48).put (k := pI p) pv)
          rw [putM_new (askN_take hp)] at ho8
          have e2 : ((askN z.length j (szO r)).take (k + 1)).map (fun p => (pI p, fstO (L.map (·.2)) z n p)) = ((askN z.length j (szO r)).take k).map (fun p => (pI p, fstO (L.map (·.2)) z n p)) ++ [(pI p, fstO (L.map (·.2)) z n p)] := by
            rw [take_snoc hp, List.map_append]
            rfl
          refine ⟨same_mut (s4.trans s48) nD0, by rw [upd_ne lD]; exact s48 _ _ at4, fun y hy => but_tupT hD8 but_upd (same_tup s48 (hR4 y hy)), ⟨_, upd_same, by rw [e2]; exact ho8.but hD8 but_upd⟩, _, _, _, _, rfl⟩
    · obtain ⟨s4, at4, hR4, ⟨kvs, hD, ho⟩, y6, y7, y8, y9, rfl⟩ := hW
      rw [qrefs_len, rl, List.take_of_length_le (Nat.le_refl _)] at ho
      exact ⟨_, rfl, q D kvs H4 s4 nD0 hD ho⟩
end

end SH
set_option Elab.async false
set_option linter.all false
set_option maxRecDepth 100000
set_option maxHeartbeats 4000000
namespace SH
open PySem PySem.Spec PyProof.Rows L2
section
variable {P : Program} {w : World} {K : PySem.W.Frag} {mg : Str → Option Value} {base : Heap} {ea : Ea}
def spLDue (K : PySem.W.Frag) : Sp := fun vs H Q _ => ∃ (a : Addr) (L : PL) (n : Int) (z : Str) (j : Nat) (v : V) (o : Option (Int × Int)) (D : Addr) (kvs : List (List Key × V)) (M : MP), vs = [.ref a, .int n, .int j, v, .ref D] ∧ HsAt K H a L ∧ L.length ≤ 8 ∧ (∀ q ∈ L, q.2.2.length ≤ 40) ∧ ((L.map (·.2)).map (·.1)).Pairwise (· < ·) ∧ lk n (L.map (·.2)) = some z ∧ j < z.length ∧ OAt K H v o ∧ H D = some (.dT kvs) ∧ OthAt K H kvs M ∧
  ∀ H', Same H H' → Q (.bl (dueB (L.map (·.2)) z n j o M)) H'
theorem sc__law_due : FnScope ["house", "number", "index", "found", "others", "text", "start", "stop", "place"] ["house", "number", "index", "found", "others"] (defScope s__law_due) := ⟨rfl, rfl, rfl, by decide +kernel, rfl, by decide +kernel, by decide +kernel⟩
theorem ok__law_due (T : Txt K mg ea) (c__law_named : Cl P w K mg base 1 "_law_named" (spAsked K)) (c__law_places : Cl P w K mg base 1 "_law_places" (spLPl K)) : Cl P w K mg base 2 "_law_due" (spLDue K) := by
  have nd := sc__law_due.nd
  refine cl_of T.d__law_due sc__law_due (fun vs H Q E h => ?_) (fun f cdv A outer s H vs Q E hr h => ?_)
  · obtain ⟨a, L, n, z, j, v, o, D, kvs, M, rfl, _⟩ := h
    rfl
  · obtain ⟨a, L, n, z, j, v, o, D, kvs, M, rfl, hA, hl, hz, asc, hzz, hj, hv, hD, hO, q2⟩ := h
    refine ⟨_, (pss_cons (ps_set (i := 5) nd rfl (.inl rfl) (pe_dget (hu_of hr) (pe_callTy (call_dictP rfl) (by rfl) T.b_dict (by decide +kernel) (pa_cons (pv 0) pa_nil)) (pv 1) (fun _ _ => rfl)))
      (C8.pss_cut (ps_if (pt_cmpR op_notN (pv 3) pe_non (nomark _))
        (pss_cons (ps_asg (pv 3) (pg_tup rfl (pgs_cons (pg_name (i := 6) nd rfl (.inl rfl)) (pgs_cons (pg_name (i := 7) nd rfl (.inl rfl)) pgs_nil))))
          (pss_one (ps_if (PW.pt (pw_or (pt_not (pt_chain4 op_le op_le op_lt op_le pe_int (pv 6) (pv 2) (pv 7) (pe_callB call_len_str (by rfl) T.b_len PySem.boot_len (pa_cons (pv 5) pa_nil)))) (pw_or1 (pt_cmpR op_ne (pe_callB call_len_seq (by rfl) T.b_len PySem.boot_len (pa_cons (C8.pe_c c__law_places hr (by decide) (by rfl) (pa_cons (pv 0) (pa_cons (pe_slice sl_str (pv 5) (po_some (pv 6)) (po_some (pv 7))) pa_nil))) pa_nil)) pe_int (nomark _)))))
            (pss_one (ps_ret pe_bl))
            pss_nil)))
        pss_nil)
      (pss_cons (ps_for PassesOwn.never rfl (pi_listK (K := K) (C8.pe_c c__law_named hr (by decide) (by rfl) (pa_cons (pv 5) (pa_cons (pv 2) (pa_cons (pv 3) pa_nil))))) (pg_tup rfl (pgs_cons (pg_name (i := 6) nd rfl (.inl rfl)) (pgs_cons (pg_name (i := 7) nd rfl (.inl rfl)) pgs_nil)))
        (pss_cons (ps_set (i := 8) nd rfl (.inl rfl) (pe_dget1 (hu_of hr) (pv 4) (pe_tup (pa_cons (pv 6) (pa_cons (pv 7) pa_nil))) (by constructor <;> rfl)))
          (pss_one (ps_if (PW.pt (pw_or (pt_cmpR op_isN (pv 8) pe_non (nomark _)) (pw_or (pt_cmpR (op_eqDK (K := K) hr.units) (pv 8) (pe_tup (pa_cons (pv 1) (pa_cons (pv 6) pa_nil))) (nomark _)) (pw_or1 (pt_cmpR (op_notInRK (K := K) hr) (pv 8) (C8.pe_c c__law_places hr (by decide) (by rfl) (pa_cons (pv 0) (pa_cons (pe_slice sl_str (pv 5) (po_some (pv 6)) (po_some (pv 7))) pa_nil))) (by rfl))))))
            (pss_one (ps_ret pe_bl))
            pss_nil))))
      (pss_one (ps_ret pe_bl))))), ?_⟩
    have zl := lk_len hz hzz
    have zs : z.length ≤ sizeLine := Nat.le_trans zl (by decide)
    have eps : refs L = (L.map (·.1)).map V.ref := by rw [List.map_map]; rfl
    refine ⟨_, rfl, a, L.map (fun q : Addr × Int × Str => q.1), L.map fun q : Addr × Int × Str => ((Sum.inl q.2.1 : Key), V.str q.2.2), rfl, by rw [← eps]; exact hA.1, Dct.paired_house hA.2, fun dT ndT => ?_⟩
    have s1 := same_new (o := .dK (mergeK [] (L.map fun q => ((Sum.inl q.2.1 : Key), V.str q.2.2)))) ndT
    have dg : DGet (upd H dT (.dK (mergeK [] (L.map fun q => ((Sum.inl q.2.1 : Key), V.str q.2.2))))) dT (.int n) (some (.str z)) := by
      have := DGet.k (k := .inl n) (upd_same (H := H) (a := dT) (o := .dK (mergeK [] (L.map fun q => ((Sum.inl q.2.1 : Key), V.str q.2.2)))))
      rw [lk_val asc, hzz] at this
      exact this
    refine ⟨_, rfl, dT, _, rfl, dg, ?_⟩
    generalize upd H dT (.dK (mergeK [] (L.map fun q => ((Sum.inl q.2.1 : Key), V.str q.2.2)))) = H1 at s1 ⊢
    have no : okF (L.map (·.2)) z j o = false → ∀ H1, Same H H1 → Q (.bl false) H1 := fun e H1 s1 => by
      have := q2 H1 s1
      unfold dueB at this
      rw [e] at this
      exact this
    refine ⟨fun σ H1 => Same H H1 ∧ okF (L.map (·.2)) z j o = true ∧ ∃ y6 y7 y8 : Option V, σ = [some (.ref a), some (.int n), some (.int (j : Int)), some v, some (.ref D), some (.str z), y6, y7, y8], ?_, ?_⟩
    · cases o with
      | none =>
        obtain rfl : v = .non := hv
        exact ⟨_, rfl, rfl, _, rfl, iteF ⟨s1, rfl, _, _, _, rfl⟩⟩
      | some p =>
        obtain ⟨t, rfl, ht⟩ := hv
        obtain ⟨o1, o2⟩ := p
        have bad : ¬ (0 ≤ o1 ∧ o1 ≤ (j : Int) ∧ (j : Int) < o2 ∧ o2 ≤ (z.length : Int)) → Q (.bl false) H1 := fun h => no (by
          show (decide _ && _) = false
          rw [decide_eq_false h]
          rfl) H1 s1
        refine ⟨_, rfl, rfl, _, rfl, iteT ?_⟩
        refine ⟨_, rfl, ?_⟩
        refine ⟨_, _, rfl, same_tup s1 ht, rfl, _, _, rfl, _, _, rfl, rfl, ?_⟩
        refine ⟨_, rfl, _, _, rfl, rfl, _, rfl, ite2 (fun c1 => ?_) (fun c1 => ⟨_, rfl, iteT (bad fun y => c1 (decide_eq_true y.1))⟩)⟩
        refine ⟨_, rfl, _, _, rfl, rfl, _, rfl, ite2 (fun c2 => ?_) (fun c2 => ⟨_, rfl, iteT (bad fun y => c2 (decide_eq_true y.2.1))⟩)⟩
        refine ⟨_, rfl, _, _, rfl, rfl, _, rfl, ite2 (fun c3 => ?_) (fun c3 => ⟨_, rfl, iteT (bad fun y => c3 (decide_eq_true y.2.2.1))⟩)⟩
        refine ⟨_, rfl, z, rfl, zs, _, _, rfl, rfl, _, rfl, ite2 (fun c4 => bad fun y => by rw [decide_eq_true y.2.2.2] at c4; cases c4) (fun c4 => ?_)⟩
        have rng : 0 ≤ o1 ∧ o1 ≤ (j : Int) ∧ (j : Int) < o2 ∧ o2 ≤ (z.length : Int) := ⟨of_decide_eq_true c1, of_decide_eq_true c2, of_decide_eq_true c3, by
          by_cases h : o2 ≤ (z.length : Int)
          · exact h
          · exact absurd (by show (!decide (o2 ≤ (z.length : Int))) = true; rw [decide_eq_false h]; rfl) c4⟩
        have eF : okF (L.map (·.2)) z j (some (o1, o2)) = decide ((plc (L.map (·.2)) (cutS z (some o1) (some o2))).length = 1) := by
          show (decide _ && decide _) = decide _
          rw [decide_eq_true rng]
          rfl
        obtain ⟨a1, rfl⟩ : ∃ x : Nat, o1 = x := ⟨o1.toNat, by omega⟩
        obtain ⟨b1, rfl⟩ : ∃ x : Nat, o2 = x := ⟨o2.toNat, by omega⟩
        have cl := cutN_len (z := z) (a := a1) (b := b1) (by omega) (by omega)
        refine ⟨_, rfl, _, rfl, _, rfl, _, rfl, _, rfl, _, rfl, z, rfl, zs, a, L, cutN z a1 b1, rfl, hA.same s1, hl, hz, by omega, fun l R H2 s2 nl at2 hR er => ?_⟩
        refine ⟨_, _, rfl, .inl (SqL.of at2), rfl, _, rfl, ?_⟩
        have rl : R.length = (plc (L.map (·.2)) (cutN z a1 b1)).length := by have := congrArg List.length er; rwa [List.length_map] at this
        rw [qrefs_len, rl]
        refine ite2 (fun c5 => no (eF.trans (decide_eq_false fun one => ?_)) H2 (s1.trans s2)) (fun c5 => ⟨s1.trans s2, eF.trans (decide_eq_true ?_), _, _, _, rfl⟩)
        · have one : (plc (L.map (·.2)) (cutN z a1 b1)).length = 1 := one
          rw [one] at c5
          exact absurd c5 (by decide)
        · by_cases one : (plc (L.map (·.2)) (cutN z a1 b1)).length = 1
          · exact one
          · refine absurd ?_ c5
            rw [show (decide (V.int ((plc (L.map (·.2)) (cutN z a1 b1)).length : Int) = V.int 1)) = false from decide_eq_false fun e => one (by have := V.int.inj e; omega)]
            rfl
    · rintro σ H1 ⟨s1, ok, y6, y7, y8, rfl⟩
      have hA1 := hA.same s1
      refine ⟨_, rfl, _, rfl, _, rfl, z, j, v, o, rfl, zl, hj, hv.same s1, okF_in ok, fun l R H2 s2 at2 hR er => ?_⟩
      refine ⟨l, rfl, ⟨_, SqL.of at2⟩, ?_⟩
      have s12 := s1.trans s2
      have rl : R.length = (askO z.length j o).length := by have := congrArg List.length er; rwa [List.length_map, List.length_map] at this
      have fin : ∀ b H3, Same H2 H3 → ((askO z.length j o).all (okP (L.map (·.2)) z n M)) = b → Q (.bl b) H3 := fun b H3 s3 e => by
        have := q2 H3 (s12.trans s3)
        unfold dueB at this
        rw [ok, e] at this
        exact this
      refine for_it (walk_list (K := K) (a := l) (xs := qrefs R)) (fun k σ H' => Same H2 H' ∧ ((askO z.length j o).take k).all (okP (L.map (·.2)) z n M) = true ∧ ∃ y6 y7 y8 : Option V, σ = [some (.ref a), some (.int n), some (.int (j : Int)), some v, some (.ref D), some (.str z), y6, y7, y8])
        ⟨Same.refl _, rfl, _, _, _, rfl⟩ (fun k σ H' _ hW => SqL.of (hW.1 _ _ at2)) (fun k x σ H3 H4 hk hW y => ?_) (fun σ H3 hW => ?_)
      · obtain ⟨s3, al, y6, y7, y8, rfl⟩ := hW
        obtain ⟨rfl, hx⟩ := y
        obtain ⟨r1, hr1, rm, rfl⟩ := qrefs_at hx
        have hr2 : (R.map (·.2))[k]? = some r1.2 := by rw [List.getElem?_map, hr1]; rfl
        rw [er, List.getElem?_map] at hr2
        obtain ⟨p, hp, ep⟩ := Option.map_eq_some_iff.mp hr2
        have pm := List.mem_of_getElem? hp
        obtain ⟨b1, b2, b3, b4⟩ := askO_mem hj pm
        have tu := same_tup s3 (hR r1 rm)
        rw [← ep] at tu
        refine ⟨_, _, rfl, tu, rfl, _, _, rfl, _, _, rfl, rfl, ?_⟩
        have sz2 : 2 ≤ sizeLine := by decide
        have hD4 := (s12.trans s3) _ _ hD
        refine ⟨_, rfl, D, rfl, .inr ⟨_, .of hD4⟩, _, rfl, _, rfl, sz2, fun t nt => ?_⟩
        have st := same_new (o := .tup [.int (pI p).1, .int (pI p).2]) nt
        have ht : (upd H4 t (.tup [.int (pI p).1, .int (pI p).2])) t = some (.tup ((k2 (pI p)).map kV)) := upd_same
        have s4 := s3.trans st
        generalize upd H4 t (.tup [.int (pI p).1, .int (pI p).2]) = H5 at st ht s4 ⊢
        have hD5 := (s12.trans s4) _ _ hD
        have hO5 := hO.same (s12.trans s4)
        have dg := DGet.t hD5 ht
        have bad : okP (L.map (·.2)) z n M p = false → ∀ H6, Same H2 H6 → Q (.bl false) H6 := fun e H6 s6 => fin false H6 s6 (all_false pm e)
        rcases hO5.look (pI p) with ⟨n1, n2⟩ | ⟨v1, p1, n1, n2, n3⟩
        · rw [n1] at dg
          refine ⟨none, dg, ?_⟩
          refine ⟨_, rfl, rfl, _, rfl, iteT (bad ?_ H5 s4)⟩
          unfold okP
          rw [n2]
        · rw [n1] at dg
          refine ⟨some v1, dg, ?_⟩
          obtain ⟨t1, rfl, ht1⟩ := n3
          refine ⟨_, rfl, rfl, _, rfl, iteF ?_⟩
          refine ⟨_, rfl, _, rfl, _, rfl, sz2, fun u nu => ?_⟩
          have su := same_new (o := .tup [.int n, .int (pI p).1]) nu
          have pr : PrAt K (upd H5 u (.tup [.int n, .int (pI p).1])) (.ref t1) p1 := ⟨t1, rfl, same_tup su ht1⟩
          have po : PrAt K (upd H5 u (.tup [.int n, .int (pI p).1])) (.ref u) (n, (p.1 : Int)) := ⟨u, rfl, SqT.of upd_same⟩
          refine ⟨dP2 p1, dP2 (n, (p.1 : Int)), pr.dp, po.dp, p2_shaped _, p2_shaped _, ?_⟩
          rw [eqv_p2]
          have s5 := s4.trans su
          generalize upd H5 u (.tup [.int n, .int (pI p).1]) = H6 at su pr s5 ⊢
          have eo : okP (L.map (·.2)) z n M p = decide (p1 ∈ other (L.map (·.2)) z n p) := by
            unfold okP
            rw [n2]
          refine ⟨_, rfl, ite2 (fun c1 => ?_) (fun c1 => ?_)⟩
          · have c1 := of_decide_eq_true c1
            refine bad ?_ H6 s5
            rw [eo]
            exact decide_eq_false fun m => of_decide_eq_true (List.mem_filter.mp m).2 c1
          · have cl := cutN_len (z := z) (a := p.1) (b := p.2) (by omega) b3
            refine ⟨_, rfl, _, rfl, _, rfl, _, rfl, _, rfl, _, rfl, _, rfl, z, rfl, zs, a, L, cutN z p.1 p.2, rfl, hA.same (s12.trans s5), hl, hz, by omega, fun l2 R2 H7 s7 nl2 at7 hR7 er7 => ?_⟩
            have s57 := s5.trans s7
            refine ⟨dP2 p1, (R2.map (fun y : Addr × Int × Int => y.2)).map dP2, (pr.same s7).dp, dp_q (SqL.of at7) hR7, p2_shaped _, dQ_shaped _, ?_⟩
            rw [any_p2, er7]
            refine ⟨_, rfl, ?_⟩
            by_cases m : p1 ∈ plc (L.map (·.2)) (cutN z p.1 p.2)
            · rw [decide_eq_true m]
              refine iteF ⟨s57, ?_, _, _, _, rfl⟩
              rw [all_take hp al, eo]
              exact decide_eq_true (List.mem_filter.mpr ⟨m, decide_eq_true fun e => c1 (decide_eq_true e)⟩)
            · rw [decide_eq_false m]
              refine iteT (bad ?_ H7 s57)
              rw [eo]
              exact decide_eq_false fun m2 => m (List.mem_filter.mp m2).1
      · obtain ⟨s3, al, y6, y7, y8, rfl⟩ := hW
        rw [qrefs_len, rl, List.take_of_length_le (Nat.le_refl _)] at al
        exact fin true H3 s3 al
end

end SH
set_option Elab.async false
set_option linter.all false
set_option maxRecDepth 100000
set_option maxHeartbeats 4000000
namespace SH
open PySem PySem.Spec PyProof.Rows L2
section
variable {P : Program} {w : World} {K : PySem.W.Frag} {mg : Str → Option Value} {base : Heap} {ea : Ea}
def spLaw (K : PySem.W.Frag) : Sp := fun vs H Q _ => ∃ (a : Addr) (ns : List Int), vs = [.ref a] ∧ SqL K H a (ns.map V.int) ∧ ns.length ≤ 63 ∧ ∀ H', Q (.bl true) H'
/-- small numbers in a dict of pairs -/
def MB (M : MP) : Prop := M.length ≤ 60 ∧ ∀ c ∈ M, (c.1.1.natAbs < 900 ∧ c.1.2.natAbs < 900) ∧ c.2.1.natAbs < 1000 ∧ c.2.2.natAbs < 1000
theorem MB.put {M : MP} (h : MB M) {c : (Int × Int) × (Int × Int)} (hc : c ∈ M) {v : Int × Int} (h1 : v.1.natAbs < 1000) (h2 : v.2.natAbs < 1000) : MB (putM M c.1 v) := by
  refine ⟨?_, fun x hx => ?_⟩
  · unfold putM
    rw [if_pos (List.any_eq_true.mpr ⟨c, hc, decide_eq_true rfl⟩), List.length_map]
    exact h.1
  · rcases mem_putM hx with m | e
    · exact h.2 x m
    · rw [e]
      exact ⟨(h.2 c hc).1, h1, h2⟩
theorem MB.drop {M : MP} (h : MB M) (k : Int × Int) : MB (dropM M k) := ⟨Nat.le_trans (List.length_filter_le _ _) h.1, fun c hc => h.2 c (List.mem_filter.mp hc).1⟩
theorem OAt.but {H H' : Hp} {D : Addr} {l : List (List Key × V)} (hD : H D = some (.dT l)) (e : But D H H') {v : V} : ∀ {o : Option (Int × Int)}, OAt K H v o → OAt K H' v o
  | none, h => h
  | some _, h => PrAt.but hD e h
theorem AtS.but {H H' : Hp} {D : Addr} {l : List (List Key × V)} (hD : H D = some (.dT l)) (e : But D H H') {v : V} : ∀ {o : Option (Nat × Nat)}, AtS K H v o → AtS K H' v o
  | none, h => h
  | some _, h => by
    obtain ⟨t, rfl, ht⟩ := h
    exact ⟨t, rfl, e _ _ (fun z => by rw [z, hD] at ht; cases ht) ht⟩
/-- the dict that is tried -/
structure Tri (K : PySem.W.Frag) (H0 H : Hp) (D : Addr) (M : MP) : Prop where
  sm : Same H0 H
  nD : H0 D = none
  dc : ∃ kvs, H D = some (.dT kvs) ∧ OthAt K H kvs M
  mb : MB M
theorem Tri.same {K : PySem.W.Frag} {H0 H H' : Hp} {D : Addr} {M : MP} (s : Same H H') (h : Tri K H0 H D M) : Tri K H0 H' D M := by
  obtain ⟨kvs, h1, h2⟩ := h.dc
  exact ⟨h.sm.trans s, h.nD, ⟨kvs, s _ _ h1, h2.same s⟩, h.mb⟩
/-- its keys in a list -/
structure Kys (H : Hp) (l : Addr) (Z : List (Addr × List Key)) (M : MP) : Prop where
  at_ : H l = some (.lst (Z.map fun z => V.ref z.1))
  kt : ∀ z ∈ Z, H z.1 = some (.tup (z.2.map kV))
  km : ∀ z ∈ Z, ∃ c ∈ M, z.2 = k2 c.1
theorem Kys.same {H H' : Hp} {l : Addr} {Z : List (Addr × List Key)} {M : MP} (s : Same H H') (h : Kys H l Z M) : Kys H' l Z M := ⟨s _ _ h.at_, fun z hz => s _ _ (h.kt z hz), h.km⟩
theorem Kys.but {H H' : Hp} {D l : Addr} {Z : List (Addr × List Key)} {M M' : MP} {kvs : List (List Key × V)} (hD : H D = some (.dT kvs)) (s : But D H H') (h : Kys H l Z M) (hm : ∀ c ∈ M, ∃ c' ∈ M', c'.1 = c.1) : Kys H' l Z M' :=
  ⟨s _ _ (fun e => by have := h.at_; rw [e, hD] at this; cases this) h.at_, fun z hz => s _ _ (fun e => by have := h.kt z hz; rw [e, hD] at this; cases this) (h.kt z hz), fun z hz => by
    obtain ⟨c, hc, e⟩ := h.km z hz
    obtain ⟨c', hc', e'⟩ := hm c hc
    exact ⟨c', hc', by rw [e, e']⟩⟩
theorem putM_keys {M : MP} {k v : Int × Int} : ∀ c ∈ M, ∃ c' ∈ putM M k v, c'.1 = c.1 := fun c hc => by
  unfold putM
  split
  · exact ⟨_, List.mem_map.mpr ⟨c, hc, rfl⟩, by split <;> rfl⟩
  · exact ⟨c, List.mem_append_left _ hc, rfl⟩
theorem dueM_mb {h : List (Int × Str)} {z : Str} {n : Int} {j : Nat} {r : Option (Nat × Nat)} (zl : z.length ≤ 40) (hj : j < z.length) (hn : ∀ q ∈ h, 0 ≤ q.1 ∧ q.1 ≤ 99) (hz : ∀ q ∈ h, q.2.length ≤ 40) : MB (dueM h z n j r) := by
  have al := ask_len (j := j) zl (szO r)
  refine ⟨by unfold dueM; rw [List.length_map]; omega, fun c hc => ?_⟩
  obtain ⟨p, hp, rfl⟩ := List.mem_map.mp hc
  obtain ⟨b1, b2, b3, b4, _⟩ := ask_mem hj hp
  refine ⟨⟨?_, ?_⟩, ?_⟩
  · show (p.1 : Int).natAbs < 900
    omega
  · show (p.2 : Int).natAbs < 900
    omega
  · show (fstO h z n p).1.natAbs < 1000 ∧ (fstO h z n p).2.natAbs < 1000
    unfold fstO
    cases e : other h z n p with
    | nil => exact ⟨by decide, by decide⟩
    | cons y t =>
      have m : y ∈ other h z n p := by rw [e]; exact List.mem_cons_self ..
      obtain ⟨x, s, hx, es, hs, _⟩ := mem_plc (List.mem_filter.mp m).1
      have := hn _ hx
      have := hz _ hx
      show y.1.natAbs < 1000 ∧ y.2.natAbs < 1000
      simp only at *
      omega
theorem shw_hs {h : List (Int × Str)} (a : LetAll h) (hn : ∀ q ∈ h, 0 ≤ q.1 ∧ q.1 ≤ 99) (hz : ∀ q ∈ h, q.2.length ≤ 40) (hl : h.length ≤ 8) : Shw (dH h) 2 1000 := by
  have : ∀ d ∈ h.map dPair, Shw d 1 84 := fun d hd => by
    obtain ⟨q, hq, rfl⟩ := List.mem_map.mp hd
    refine shw_tup (w := 41) (n := 0) fun d hd => ?_
    simp only [List.mem_cons, List.not_mem_nil, or_false] at hd
    rcases hd with e | e <;> subst e
    · exact shw_int (by have := hn q hq; omega)
    · exact (shw_str (let_ok (a q hq))).mono (Nat.le_refl _) (by have := hz q hq; omega)
  exact (shw_list this).mono (Nat.le_refl _) (by rw [List.length_map]; omega)
theorem sc_law : FnScope ["script", "draws", "house", "able", "turn", "number", "text", "index", "found", "others", "other", "keys", "key", "kept", "told", "pair"] ["script"] (defScope s_law) := ⟨rfl, rfl, rfl, by decide +kernel, rfl, by decide +kernel, by decide +kernel⟩
theorem ok_law (T : Txt K mg ea) {f : Addr} {fd : FuncData} (F0 : Fun K "law" "law" s_law f fd) (c__law_draws : Cl P w K mg base 1 "_law_draws" (spDraws K)) (c__law_mix : Cl P w K mg base 1 "_law_mix" (spDraw K)) (c__law_house : Cl P w K mg base 3 "_law_house" (spHouse K))
    (c__law_is_refused : Cl P w K mg base 8 "_law_is_refused" (spIsRef K)) (c_shortest_single : ClX P w K mg base 5 "shortest_single" (spSingle K ea)) (c_single_places : ClX P w K mg base 6 "single_places" (spSP K ea)) (c__law_others : Cl P w K mg base 2 "_law_others" (spLOth K))
    (c_check_single : ClX P w K mg base 5 "check_single" (spCheckS K ea)) (c__law_due : Cl P w K mg base 2 "_law_due" (spLDue K)) :
    FnG P w K mg base 10 f fd ["script"] (spLaw K) := by
  have nd := sc_law.nd
  refine okG F0 sc_law (fun vs H Q E h => ?_) (fun cdv A outer s H vs Q E hg hr h => ?_)
  · obtain ⟨a, ns, rfl, _⟩ := h
    rfl
  · obtain ⟨a, ns, rfl, hS, hl, q⟩ := h
    refine ⟨_, (pss_cons (ps_set (i := 1) nd rfl (.inl rfl) (C8.pe_c c__law_draws hr (by decide) (by rfl) (pa_cons (pv 0) pa_nil)))
      (pss_cons (ps_set (i := 2) nd rfl (.inl rfl) (C8.pe_c c__law_house hr (by decide) (by rfl) (pa_cons (pv 1) (pa_cons pe_int (pa_cons pe_int pa_nil)))))
      (pss_cons (ps_if (pt_not (pt_val (C8.pe_c c__law_is_refused hr (by decide) (by rfl) (pa_cons (pv 1) (pa_cons (pv 2) pa_nil)))))
        (pss_one (ps_ret pe_bl))
        pss_nil)
      (pss_cons (ps_setLc (i := 3) (own := [("pair", 15)]) (g := (gName 15)) rfl nd rfl rfl (sw_true rfl rfl rfl (by decide +kernel)) (pi_listK (K := K) (pv 2)) (blkOk_by (own := [("pair", 15)]) (N := ["script", "draws", "house", "able", "turn", "number", "text", "index", "found", "others", "other", "keys", "key", "kept", "told", "pair"]) (sc := defScope s_law) (by decide +kernel)) (fun _ _ _ _ _ => (pg_name (i := 15) nd rfl (.inl rfl))) (fun _ _ _ _ _ => pts_one (pt_cmpR op_ne (pe_ix (ixt (K := K)) (pv 15) pe_int (fun _ _ => rfl)) pe_str (nomark _))) (fun _ _ _ _ _ => (pv 15)))
      (pss_cons (ps_for PassesOwn.never rfl (pi_range1 rfl T.b_range (pa_cons pe_int pa_nil)) (pg_name (i := 4) nd rfl (.inl rfl))
        (pss_one (ps_if (pt_cmpR op_gt (pe_callB call_len_seq (by rfl) T.b_len PySem.boot_len (pa_cons (pv 3) pa_nil)) pe_int (nomark _))
            (pss_cons (ps_asg (pe_ix (ixl (K := K)) (pv 3) (C8.pe_c c__law_mix hr (by decide) (by rfl) (pa_cons (pv 1) (pa_cons (pe_op op_add pe_int (pv 4)) (pa_cons (pe_callB call_len_seq (by rfl) T.b_len PySem.boot_len (pa_cons (pv 3) pa_nil)) pa_nil)))) (fun _ _ => rfl)) (pg_tup rfl (pgs_cons (pg_name (i := 5) nd rfl (.inl rfl)) (pgs_cons (pg_name (i := 6) nd rfl (.inl rfl)) pgs_nil))))
              (pss_cons (ps_set (i := 7) nd rfl (.inl rfl) (C8.pe_c c__law_mix hr (by decide) (by rfl) (pa_cons (pv 1) (pa_cons (pe_op op_add pe_int (pv 4)) (pa_cons (pe_callB call_len_str (by rfl) T.b_len PySem.boot_len (pa_cons (pv 6) pa_nil)) pa_nil)))))
              (pss_cons (ps_set (i := 8) nd rfl (.inl rfl) (pe_cx c_shortest_single hr (by decide) (fun σ => passAt takes0 σ) (by rfl) (pa_cons (pv 2) (pa_cons (pv 5) (pa_cons (pv 7) pa_nil)))))
              (pss_cons (ps_set (i := 9) nd rfl (.inl rfl) (pe_cx c_single_places hr (by decide) (fun σ => passAt takes0 σ) (by rfl) (pa_cons (pv 2) (pa_cons (pv 5) (pa_cons (pv 7) pa_nil)))))
              (pss_cons (ps_if (PW.pt (pw_or (pt_not (pt_val (pe_callB call_isi (by rfl) T.b_isinstance (by decide +kernel) (pa_cons (pv 9) (pa_cons (pe_bltn (v := .ty "dict") (by rfl) T.b_dict (by decide +kernel) rfl) pa_nil))))) (pw_or1 (pt_cmpR (op_neTTK (K := K) hr) (pv 9) (C8.pe_c c__law_others hr (by decide) (by rfl) (pa_cons (pv 2) (pa_cons (pv 5) (pa_cons (pv 7) (pa_cons (pv 8) pa_nil))))) (nomark _)))))
                (pss_one (ps_ret pe_bl))
                pss_nil)
              (pss_cons (ps_dput (hu_of hr) (pv 9) (pe_tup (pa_cons pe_int (pa_cons pe_int pa_nil))) (pe_tup (pa_cons pe_int (pa_cons pe_int pa_nil))) rfl)
              (pss_cons (ps_set (i := 9) nd rfl (.inl rfl) (pe_cx c_single_places hr (by decide) (fun σ => passAt takes0 σ) (by rfl) (pa_cons (pv 2) (pa_cons (pv 5) (pa_cons (pv 7) pa_nil)))))
              (pss_cons (ps_if (pt_cmpR (op_neTTK (K := K) hr) (pv 9) (C8.pe_c c__law_others hr (by decide) (by rfl) (pa_cons (pv 2) (pa_cons (pv 5) (pa_cons (pv 7) (pa_cons (pv 8) pa_nil))))) (nomark _))
                (pss_one (ps_ret pe_bl))
                pss_nil)
              (pss_cons (ps_if (pt_cmpR op_isnot_bl (pe_cx c_check_single hr (by decide) (fun σ => passAt takes0 σ) (by rfl) (pa_cons (pv 2) (pa_cons (pv 5) (pa_cons (pv 7) (pa_cons (pv 8) (pa_cons (pv 9) pa_nil)))))) pe_bl (nomark _))
                (pss_one (ps_ret pe_bl))
                pss_nil)
              (pss_cons (ps_set (i := 10) nd rfl (.inl rfl) (pe_ix (ixl (K := K)) (pe_lst (pa_cons (pv 8) (pa_cons pe_non (pa_cons (pe_tup (pa_cons (pv 7) (pa_cons (pe_op op_add (pv 7) pe_int) pa_nil))) (pa_cons (pe_tup (pa_cons pe_int (pa_cons (pe_callB call_len_str (by rfl) T.b_len PySem.boot_len (pa_cons (pv 6) pa_nil)) pa_nil))) pa_nil))))) (C8.pe_c c__law_mix hr (by decide) (by rfl) (pa_cons (pv 1) (pa_cons (pe_op op_add pe_int (pv 4)) (pa_cons pe_int pa_nil)))) (fun _ _ => rfl)))
              (C8.pss_cut (ps_if (PW.pt (pw_and (pt_cmpR op_notN (pv 10) pe_non (nomark _)) (pw_and1 (pt_cmpR op_eq (C8.pe_c c__law_mix hr (by decide) (by rfl) (pa_cons (pv 1) (pa_cons (pe_op op_add pe_int (pv 4)) (pa_cons pe_int pa_nil)))) pe_int (nomark _)))))
                (pss_one (ps_set (i := 10) nd rfl (.inl rfl) (pe_tup (pa_cons (pe_op op_sub (pe_op op_add (pe_ix (ixt (K := K)) (pv 10) pe_int (fun _ _ => rfl)) (C8.pe_c c__law_mix hr (by decide) (by rfl) (pa_cons (pv 1) (pa_cons (pe_op op_add pe_int (pv 4)) (pa_cons pe_int pa_nil))))) pe_int) (pa_cons (pe_op op_sub (pe_op op_add (pe_ix (ixt (K := K)) (pv 10) pe_int (fun _ _ => rfl)) (C8.pe_c c__law_mix hr (by decide) (by rfl) (pa_cons (pv 1) (pa_cons (pe_op op_add pe_int (pv 4)) (pa_cons pe_int pa_nil))))) pe_int) pa_nil)))))
                pss_nil)
              (pss_cons (ps_set (i := 11) nd rfl (.inl rfl) (pe_callB (cr_sortT rfl hr.units) (by rfl) T.b_sorted (by decide +kernel) (pa_cons (pv 9) pa_nil)))
              (C8.pss_cut (ps_if (PW.pt (pw_and (pt_cmpR op_gt (pe_callB call_len_seq (by rfl) T.b_len PySem.boot_len (pa_cons (pv 11) pa_nil)) pe_int (nomark _)) (pw_and1 (pt_cmpR op_eq (C8.pe_c c__law_mix hr (by decide) (by rfl) (pa_cons (pv 1) (pa_cons (pe_op op_add pe_int (pv 4)) (pa_cons pe_int pa_nil)))) pe_int (nomark _)))))
                (pss_cons (ps_set (i := 12) nd rfl (.inl rfl) (pe_ix (ixl (K := K)) (pv 11) (C8.pe_c c__law_mix hr (by decide) (by rfl) (pa_cons (pv 1) (pa_cons (pe_op op_add pe_int (pv 4)) (pa_cons (pe_callB call_len_seq (by rfl) T.b_len PySem.boot_len (pa_cons (pv 11) pa_nil)) pa_nil)))) (fun _ _ => rfl)))
                  (pss_one (ps_dput (hu_of hr) (pv 9) (pv 12) (pe_ix (ixl (K := K)) (pe_lst (pa_cons (pe_tup (pa_cons (pv 5) (pa_cons (pe_ix (ixt (K := K)) (pv 12) pe_int (fun _ _ => rfl)) pa_nil))) (pa_cons (pe_tup (pa_cons (pv 5) (pa_cons (pe_op op_add (pe_ix (ixt (K := K)) (pv 12) pe_int (fun _ _ => rfl)) pe_int) pa_nil))) (pa_cons (pe_tup (pa_cons pe_int (pa_cons pe_int pa_nil))) pa_nil)))) (C8.pe_c c__law_mix hr (by decide) (by rfl) (pa_cons (pv 1) (pa_cons (pe_op op_add pe_int (pv 4)) (pa_cons pe_int pa_nil)))) (fun _ _ => rfl)) rfl)))
                pss_nil)
              (C8.pss_cut (ps_if (PW.pt (pw_and (pt_cmpR op_gt (pe_callB call_len_seq (by rfl) T.b_len PySem.boot_len (pa_cons (pv 11) pa_nil)) pe_int (nomark _)) (pw_and1 (pt_cmpR op_eq (C8.pe_c c__law_mix hr (by decide) (by rfl) (pa_cons (pv 1) (pa_cons (pe_op op_add pe_int (pv 4)) (pa_cons pe_int pa_nil)))) pe_int (nomark _)))))
                (pss_one (ps_expr (pe_bm PySem.F.plainAttrs_dict PySem.F.slot_dict_pop PySem.F.type_dict_pop (mt_pop1T (hu_of hr)) (pv 9) (pa_cons (pe_ix (ixl (K := K)) (pv 11) pe_int (fun _ _ => rfl)) pa_nil))))
                pss_nil)
              (pss_cons (ps_set (i := 13) nd rfl (.inl rfl) (pe_callB (call_reprTK (K := K) hg hr.units) (by rfl) T.b_repr (by decide +kernel) (pa_cons (pe_tup (pa_cons (pv 2) (pa_cons (pv 9) pa_nil))) pa_nil)))
              (pss_cons (ps_set (i := 14) nd rfl (.inl rfl) (pe_cx c_check_single hr (by decide) (fun σ => passAt takes0 σ) (by rfl) (pa_cons (pv 2) (pa_cons (pv 5) (pa_cons (pv 7) (pa_cons (pv 10) (pa_cons (pv 9) pa_nil)))))))
              (pss_cons (ps_if (PW.pt (pw_or (pt_not (pt_val (pe_callB call_isi (by rfl) T.b_isinstance (by decide +kernel) (pa_cons (pv 14) (pa_cons (pe_bltn (v := .ty "bool") (by rfl) T.b_bool (by decide +kernel) rfl) pa_nil))))) (pw_or1 (pt_cmpR op_ne (pv 14) (C8.pe_c c__law_due hr (by decide) (by rfl) (pa_cons (pv 2) (pa_cons (pv 5) (pa_cons (pv 7) (pa_cons (pv 10) (pa_cons (pv 9) pa_nil)))))) (nomark _)))))
                (pss_one (ps_ret pe_bl))
                pss_nil)
              (pss_cons (ps_if (pt_cmpR op_ne (pe_callB (call_reprTK (K := K) hg hr.units) (by rfl) T.b_repr (by decide +kernel) (pa_cons (pe_tup (pa_cons (pv 2) (pa_cons (pv 9) pa_nil))) pa_nil)) (pv 13) (nomark _))
                (pss_one (ps_ret pe_bl))
                pss_nil)
              (pss_one (ps_if (PW.pt (pw_and (pt_val (pv 14)) (pw_and (pt_cmpR op_notN (pv 10) pe_non (nomark _)) (pw_and1 (PW.pt (pw_or (pt_cmpR op_isN (pv 8) pe_non (nomark _)) (pw_or1 (pt_cmpR op_gt (pe_op op_sub (pe_ix (ixt (K := K)) (pv 10) pe_int (fun _ _ => rfl)) (pe_ix (ixt (K := K)) (pv 10) pe_int (fun _ _ => rfl))) (pe_op op_sub (pe_ix (ixt (K := K)) (pv 8) pe_int (fun _ _ => rfl)) (pe_ix (ixt (K := K)) (pv 8) pe_int (fun _ _ => rfl))) (nomark _)))))))))
                (pss_one (ps_ret pe_bl))
                pss_nil))))))))))))))))))))
            pss_nil)))
      (pss_one (ps_ret pe_bl))))))), ?_⟩
    have sz2 : 2 ≤ sizeLine := by decide
    have sz4 : 4 ≤ sizeLine := by decide
    have sz3 : 3 ≤ sizeLine := by decide
    refine ⟨_, rfl, a, ns, rfl, hS, hl, fun dr ds H1 s1 nd1 at1 hD => ?_⟩
    refine ⟨_, rfl, dr, ds, 3, 10, rfl, SqL.of at1, hD, by omega, by omega, by omega, fun hp L H2 s2 nh at2 hpr hlen hh => ?_⟩
    have hh40 : IsHs 40 (L.map (·.2)) := ⟨hh.asc, hh.num, fun q hq => ⟨(hh.txt q hq).1, Nat.le_trans (hh.txt q hq).2 (by decide)⟩⟩
    have lets := hh.letAll
    have tx : ∀ q ∈ L, q.2.2.length ≤ 40 := fun q hq => (hh40.txt q.2 (List.mem_map_of_mem hq)).2
    have asc := hh.asc
    have hA2 : HsAt K H2 hp L := ⟨SqL.of at2, hpr⟩
    have dr2 : SqL K H2 dr (ds.map V.int) := s2.seq (SqL.of at1)
    refine ⟨_, rfl, _, rfl, dr, hp, ds, L, rfl, dr2, hD, hA2, hlen, hh40, fun H3 s3 => ?_⟩
    refine ⟨_, rfl, iteF ?_⟩
    have hA3 := hA2.same s3
    have rl := refs_len L
    refine ⟨_, rfl, hp, rfl, ⟨_, hA3.1⟩, fun Da nDa => ?_⟩
    refine lc_w (walk_list (xs := refs L)) nDa (by omega) (fun H' e => e.seq hA3.1) (fun i acc _ => acc = refs ((L.take i).filter fun q => decide (q.2.2 ≠ ("" : Str)))) (fun _ _ => rfl) (fun _ _ _ _ _ _ _ r => r) (fun i H x H' y => by rw [y.1]; exact Same.refl _) (fun i x acc Ha Hb Qn Qf hi sm y r at_ kn kf => ?_) (fun acc H4 s4 at4 _ r => ?_)
    · obtain ⟨rfl, hx⟩ := y
      obtain ⟨t, ht, tm, rfl⟩ := refs_at hx
      subst r
      have sn : (L.take (i + 1)).filter (fun q => decide (q.2.2 ≠ ("" : Str))) = (L.take i).filter (fun q => decide (q.2.2 ≠ ("" : Str))) ++ if t.2.2 = ("" : Str) then [] else [t] := by
        rw [take_snoc ht, List.filter_append]
        congr 1
        by_cases h : t.2.2 = ("" : Str)
        · rw [if_pos h, List.filter_cons_of_neg (by simp [h])]; rfl
        · rw [if_neg h, List.filter_cons_of_pos (by simp [h])]; rfl
      refine ⟨rfl, _, rfl, t.1, _, _, _, rfl, rfl, same_tup sm (hA3.2 t tm), (show atI [V.int t.2.1, V.str t.2.2] 1 = some (.str t.2.2) from rfl), rfl, ?_⟩
      refine ⟨_, rfl, ?_⟩
      by_cases h : t.2.2 = ("" : Str)
      · rw [show decide (V.str t.2.2 = V.str (Str.ofString "")) = true from decide_eq_true (by rw [h])]
        exact iteF (kf _ (Same.refl _) (by rw [sn, if_pos h, List.append_nil]))
      · rw [show decide (V.str t.2.2 = V.str (Str.ofString "")) = false from decide_eq_false fun e => h (V.str.inj e)]
        exact iteT ⟨_, rfl, kn _ _ (Same.refl _) (by rw [sn, if_neg h]; unfold refs; rw [List.map_append]; rfl)⟩
    rw [List.take_of_length_le (by rw [rl]; exact Nat.le_refl _)] at r
    subst r
    generalize eAb : (L.filter fun q => decide (q.2.2 ≠ ("" : Str))) = Ab at at4
    have hAb : HsAt K H4 Da Ab := ⟨SqL.of at4, fun y hy => same_tup s4 (hA3.2 y (List.mem_filter.mp (by rw [eAb]; exact hy)).1)⟩
    have hA4 := hA3.same s4
    have dr4 : SqL K H4 dr (ds.map V.int) := (s3.trans s4).seq dr2
    refine ⟨5, rfl, by decide, by decide, ?_⟩
    refine for_range (lo := 0) (n := 5) (fun k σ H' => Same H4 H' ∧ ∃ y4 y5 y6 y7 y8 y9 y10 y11 y12 y13 y14 y15 : Option V, σ = [some (.ref a), some (.ref dr), some (.ref hp), some (.ref Da), y4, y5, y6, y7, y8, y9, y10, y11, y12, y13, y14, y15])
      ⟨Same.refl _, _, _, _, _, _, _, _, _, _, _, _, _, rfl⟩ (fun k σ H5 hk hW => ?_) (fun σ H5 hW => q H5)
    obtain ⟨s5, y4, y5, y6, y7, y8, y9, y10, y11, y12, y13, y14, y15, rfl⟩ := hW
    refine ⟨_, rfl, _, _, rfl, .inl (s5.seq hAb.1), _, _, rfl, rfl, _, rfl, ite2 (fun c0 => ?_) (fun c0 => ⟨s5, _, _, _, _, _, _, _, _, _, _, _, _, rfl⟩)⟩
    have al : (refs Ab).length = Ab.length := refs_len Ab
    have ap : 0 < Ab.length := by have := of_decide_eq_true c0; rw [al] at this; omega
    have e0 : (0 : Int) + (k : Int) = (k : Int) := Int.zero_add _
    simp only [e0]
    refine ⟨_, rfl, _, rfl, _, rfl, _, _, rfl, rfl, _, rfl, _, _, rfl, .inl (s5.seq hAb.1), ?_⟩
    refine ⟨dr, ds, 30 + (k : Int), ((refs Ab).length : Int), rfl, s5.seq dr4, hD, by omega, by omega, by omega, fun g g0 g1 => ?_⟩
    rw [al] at g1
    obtain ⟨t, ht, tm⟩ := at_map (fun q : Addr × Int × Str => V.ref q.1) (xs := Ab) (i := g) g0 g1
    have tm2 : t ∈ L ∧ t.2.2 ≠ ("" : Str) := by
      rw [← eAb] at tm
      exact ⟨(List.mem_filter.mp tm).1, of_decide_eq_true (List.mem_filter.mp tm).2⟩
    obtain ⟨tL, tne⟩ := tm2
    have zl : t.2.2.length ≤ 40 := tx t tL
    have zs : t.2.2.length ≤ sizeLine := Nat.le_trans zl (by decide)
    have zp : 0 < t.2.2.length := by
      rcases Nat.eq_zero_or_pos t.2.2.length with h | h
      · exact absurd (str_ext (by rw [List.eq_nil_of_length_eq_zero (show t.2.2.cps.toList.length = 0 from h)]; rfl)) tne
      · exact h
    have hlk : lk t.2.1 (L.map (·.2)) = some t.2.2 := lk_of asc (List.mem_map.mpr ⟨t, tL, rfl⟩)
    have nb := hh.num t.2 (List.mem_map_of_mem tL)
    have sN : Small t.2.1 := small_of (by omega) (by omega)
    refine ⟨Da, _, _, _, rfl, rfl, s5.seq hAb.1, ht, ?_⟩
    refine ⟨_, _, rfl, same_tup s5 (hAb.2 t tm), rfl, _, _, rfl, _, _, rfl, rfl, ?_⟩
    refine ⟨_, rfl, _, rfl, _, _, rfl, rfl, _, rfl, t.2.2, rfl, zs, ?_⟩
    refine ⟨dr, ds, 36 + (k : Int), (t.2.2.length : Int), rfl, s5.seq dr4, hD, by omega, by omega, by omega, fun ji j0 j1 => ?_⟩
    obtain ⟨j, rfl⟩ : ∃ j : Nat, ji = j := ⟨ji.toNat, by omega⟩
    have hj : j < t.2.2.length := by omega
    have asg : (t.2.1, t.2.2) ∈ L.map (·.2) := List.mem_map.mpr ⟨t, tL, rfl⟩
    clear tne ht tm
    generalize t.2.2 = z at *
    have sJ : Small (j : Int) := small_of (by omega) (by omega)
    have nbx : ∀ q ∈ L.map (·.2), 0 ≤ q.1 ∧ q.1 ≤ 99 := hh.num
    have txx : ∀ q ∈ L.map (·.2), q.2.length ≤ 40 := fun q hq => (hh40.txt q hq).2
    have hA5 := hA4.same s5
    refine ⟨_, rfl, _, rfl, _, rfl, hp, L, t.2.1, (j : Int), rfl, hA5, by omega, tx, sN, sJ, fun e => by rw [hlk] at e; (first | cases e | exact nomatch e), fun z' hz' => ?_⟩
    rw [hlk] at hz'
    obtain rfl := Option.some.inj hz'
    refine ⟨fun bad => absurd ⟨by omega, by omega⟩ bad, fun j' ej hj' r v H6 s6 lst ats => ?_⟩
    obtain rfl : j = j' := by omega
    have s56 := s5.trans s6
    have hA6 := hA4.same s56
    refine ⟨_, rfl, _, rfl, _, rfl, hp, L, t.2.1, (j : Int), rfl, hA6, by omega, tx, asc, sN, sJ, fun e => by rw [hlk] at e; (first | cases e | exact nomatch e), fun z' hz' => ?_⟩
    rw [hlk] at hz'
    obtain rfl := Option.some.inj hz'
    refine ⟨fun bad => absurd ⟨by omega, by omega⟩ bad, fun j' ej hj2 r1 D1 kvs1 H7 s7 lst1 nD1 hD1 hO1 => ?_⟩
    obtain rfl : j = j' := by omega
    obtain rfl := leastS_uniq lst lst1
    refine ⟨_, rfl, _, _, _, _, true, rfl, .ty "dict", .base (.dT hD1), kit_ty (by decide +kernel), _, rfl, iteF ?_⟩
    have hA7 := hA6.same s7
    refine ⟨_, rfl, _, rfl, _, rfl, _, rfl, _, rfl, hp, L, t.2.1, z, j, v, r, rfl, hA7, by omega, tx, asc, hlk, hj, ats.same s7, lst, fun D2 kvs2 H8 s8 nD2 hD2 hO2 => ?_⟩
    refine ⟨D1, D2, kvs1, kvs2, _, _, rfl, rfl, s8 _ _ hD1, hD2, (hO1.same s8).row, hO2.row, ?_⟩
    rw [sameM (dueM_nodup _ _ _ _ _)]
    refine ⟨_, rfl, iteF ?_⟩
    -- the dict is spoilt: it is not looked at again
    refine ⟨sz2, fun u1 nu1 => ?_⟩
    have t1 := same_new (o := .tup [.int 0, .int 0]) nu1
    generalize upd H8 u1 (.tup [.int 0, .int 0]) = H8a at t1 ⊢
    refine ⟨_, rfl, sz2, fun u2 nu2 => ?_⟩
    have t2 := same_new (o := .tup [.int 50, .int 60]) nu2
    have ht2 : (upd H8a u2 (.tup [.int 50, .int 60])) u2 = some (.tup ((k2 (50, 60)).map kV)) := upd_same
    generalize upd H8a u2 (.tup [.int 50, .int 60]) = H8b at t2 ht2 ⊢
    have s8b := s8.trans (t1.trans t2)
    refine ⟨D1, _, rfl, DPut.t (s8b _ _ hD1) ht2 (by rw [othAt_len hO1]; have := (dueM_mb (n := t.2.1) (r := r) zl hj nbx txx).1; exact Nat.lt_of_le_of_lt this (by decide)), ?_⟩
    have s69 := same_mut (o := .dT (putK kvs1 (k2 (50, 60)) (.ref u1))) (s7.trans s8b) nD1
    generalize upd H8b D1 (.dT (putK kvs1 (k2 (50, 60)) (.ref u1))) = H9 at s69 ⊢
    clear hO1 hO2 hD1 hD2 nD2 nD1 s8 s8b t1 t2 ht2 nu1 nu2 hA7 s7
    have hA9 := hA6.same s69
    refine ⟨_, rfl, _, rfl, _, rfl, hp, L, t.2.1, (j : Int), rfl, hA9, by omega, tx, asc, sN, sJ, fun e => by rw [hlk] at e; (first | cases e | exact nomatch e), fun z' hz' => ?_⟩
    rw [hlk] at hz'
    obtain rfl := Option.some.inj hz'
    refine ⟨fun bad => absurd ⟨by omega, by omega⟩ bad, fun j' ej hj2 r1 D kvs H10 s10 lst1 nD hDk hO => ?_⟩
    obtain rfl : j = j' := by omega
    obtain rfl := leastS_uniq lst lst1
    have hA10 := hA9.same s10
    have a10 := (ats.same s69).same s10
    refine ⟨_, rfl, _, rfl, _, rfl, _, rfl, _, rfl, hp, L, t.2.1, z, j, v, r, rfl, hA10, by omega, tx, asc, hlk, hj, a10, lst, fun D2 kvs2 H11 s11 nD2 hD2 hO2 => ?_⟩
    refine ⟨D, D2, kvs, kvs2, _, _, rfl, rfl, s11 _ _ hDk, hD2, (hO.same s11).row, hO2.row, ?_⟩
    rw [sameM (dueM_nodup _ _ _ _ _)]
    refine ⟨_, rfl, iteF ?_⟩
    have hA11 := hA10.same s11
    have a11 := a10.same s11
    refine ⟨_, rfl, _, rfl, _, rfl, _, rfl, _, rfl, hp, L, t.2.1, (j : Int), v, .ref D, rfl, hA11, by omega, tx, sN, sJ, fun e => by rw [hlk] at e; (first | cases e | exact nomatch e), fun z' hz' => ?_⟩
    rw [hlk] at hz'
    obtain rfl := Option.some.inj hz'
    refine ⟨fun bad => absurd ⟨by omega, by omega⟩ bad, fun j' ej hj2 => ?_⟩
    obtain rfl : j = j' := by omega
    refine ⟨foI r, D, kvs, _, rfl, a11.fat, s11 _ _ hDk, hO.same s11, fun H12 s12 => ?_⟩
    rw [due_ok asc (lk_mem hlk) hj lst]
    refine ⟨_, _, rfl, rfl, _, rfl, iteF ?_⟩
    have T12 : Tri K H9 H12 D (dueM (L.map (·.2)) z t.2.1 j r) := ⟨s10.trans (s11.trans s12), nD, ⟨kvs, s12 _ _ (s11 _ _ hDk), (hO.same s11).same s12⟩, dueM_mb zl hj nbx txx⟩
    have s49 := s56.trans s69
    have a12 := a11.same s12
    have s4c := s49.trans T12.sm
    clear s10 s11 s12 hO hO2 hDk hD2 nD2 hA9 hA10 hA11 a10 a11
    -- another stretch
    refine ⟨_, rfl, _, rfl, _, rfl, _, _, rfl, rfl, sz2, fun t1 nt1 => ?_⟩
    have q1 := same_new (o := .tup [.int (j : Int), .int ((j : Int) + 1)]) nt1
    have ht1 : (upd H12 t1 (.tup [.int (j : Int), .int ((j : Int) + 1)])) t1 = some (.tup [.int (j : Int), .int ((j : Int) + 1)]) := upd_same
    generalize upd H12 t1 (.tup [.int (j : Int), .int ((j : Int) + 1)]) = H13 at q1 ht1 ⊢
    refine ⟨_, rfl, z, rfl, zs, sz2, fun t2 nt2 => ?_⟩
    have q2 := same_new (o := .tup [.int 0, .int (z.length : Int)]) nt2
    have ht2 : (upd H13 t2 (.tup [.int 0, .int (z.length : Int)])) t2 = some (.tup [.int 0, .int (z.length : Int)]) := upd_same
    generalize upd H13 t2 (.tup [.int 0, .int (z.length : Int)]) = H14 at q2 ht2 ⊢
    refine ⟨sz4, fun lo nlo => ?_⟩
    have q3 := same_new (o := .lst [v, .non, .ref t1, .ref t2]) nlo
    have hlo : (upd H14 lo (.lst [v, .non, .ref t1, .ref t2])) lo = some (.lst [v, .non, .ref t1, .ref t2]) := upd_same
    generalize upd H14 lo (.lst [v, .non, .ref t1, .ref t2]) = H15 at q3 hlo ⊢
    have q13 := q1.trans (q2.trans q3)
    refine ⟨_, rfl, _, rfl, _, _, rfl, rfl, dr, ds, 42 + (k : Int), 4, rfl, (s4c.trans q13).seq dr4, hD, by omega, by omega, by omega, fun g2 g20 g21 => ?_⟩
    obtain ⟨v2, o2, hv2, ov2⟩ : ∃ v2 o2, atI [v, .non, .ref t1, .ref t2] g2 = some v2 ∧ OAt K H15 v2 o2 := by
      have : g2 = 0 ∨ g2 = 1 ∨ g2 = 2 ∨ g2 = 3 := by omega
      rcases this with e | e | e | e <;> subst e
      · exact ⟨v, foI r, rfl, (a12.fat).same q13⟩
      · exact ⟨.non, none, rfl, rfl⟩
      · exact ⟨.ref t1, some ((j : Int), (j : Int) + 1), rfl, t1, rfl, SqT.of (q3 _ _ (q2 _ _ ht1))⟩
      · exact ⟨.ref t2, some (0, (z.length : Int)), rfl, t2, rfl, SqT.of (q3 _ _ ht2)⟩
    refine ⟨lo, _, _, _, rfl, rfl, SqL.of hlo, hv2, ?_⟩
    have T15 := T12.same q13
    have a15 := a12.same q13
    clear q1 q2 q3 hlo nlo nt1 nt2 ht1 ht2
    refine ⟨fun σ H' => Same H15 H' ∧ ∃ v3 o3, OAt K H' v3 o3 ∧ σ = [some (.ref a), some (.ref dr), some (.ref hp), some (.ref Da), some (.int (k : Int)), some (.int t.2.1), some (.str z), some (.int (j : Int)), some v, some (.ref D), some v3, y11, y12, y13, y14, y15], ?_, ?_⟩
    · cases o2 with
      | none =>
        obtain rfl : v2 = .non := ov2
        exact ⟨_, rfl, rfl, _, rfl, iteF (iteF ⟨Same.refl _, .non, none, rfl, rfl⟩)⟩
      | some p2 =>
        obtain ⟨t3, rfl, ht3⟩ := ov2
        refine ⟨_, rfl, rfl, _, rfl, iteT ?_⟩
        refine ⟨_, rfl, _, rfl, _, _, rfl, rfl, dr, ds, 48 + (k : Int), 2, rfl, (s4c.trans q13).seq dr4, hD, by omega, by omega, by omega, fun g3 g30 g31 => ?_⟩
        refine ⟨rfl, _, rfl, ite2 (fun c3 => ?_) (fun c3 => ⟨Same.refl _, .ref t3, some p2, ⟨t3, rfl, ht3⟩, rfl⟩)⟩
        refine ⟨_, rfl, t3, _, _, _, rfl, rfl, ht3, atI_nat (j := 0) rfl, _, rfl, _, rfl, _, _, rfl, rfl, dr, ds, 54 + (k : Int), 3, rfl, (s4c.trans q13).seq dr4, hD, by omega, by omega, by omega, fun g4 g40 g41 => ?_⟩
        refine ⟨_, _, rfl, rfl, _, _, rfl, rfl, ?_⟩
        refine ⟨_, rfl, t3, _, _, _, rfl, rfl, ht3, atI_nat (j := 1) rfl, _, rfl, _, rfl, _, _, rfl, rfl, dr, ds, 60 + (k : Int), 3, rfl, (s4c.trans q13).seq dr4, hD, by omega, by omega, by omega, fun g5 g50 g51 => ?_⟩
        refine ⟨_, _, rfl, rfl, _, _, rfl, rfl, sz2, fun t4 nt4 => ?_⟩
        exact ⟨same_new nt4, .ref t4, some (_, _), ⟨t4, rfl, SqT.of upd_same⟩, rfl⟩
    · rintro σ H16 ⟨s16, v3, o3, ov3, rfl⟩
      have T16 := T15.same s16
      have a16 := a15.same s16
      have s4d := (s4c.trans q13).trans s16
      clear T15 a15 a12 T12 ov2
      obtain ⟨kvs, hDk, hO⟩ := T16.dc
      have eK : (kvs.map fun p => tKey p.1) = (dueM (L.map (·.2)) z t.2.1 j r).map fun c => dP2 c.1 := by
        rw [show (kvs.map fun p => tKey p.1) = (kvs.map (·.1)).map tKey by rw [List.map_map]; rfl, hO.keys, List.map_map]
        rfl
      refine ⟨_, rfl, D, kvs, rfl, .of hDk, by rw [eK]; exact p2_alike _ _, by rw [eK]; exact p2_able _ _, fun p hp => ?_, fun l Z nl eZ hZ => ?_⟩
      · have : tKey p.1 ∈ kvs.map fun p => tKey p.1 := List.mem_map.mpr ⟨p, hp, rfl⟩
        rw [eK] at this
        obtain ⟨c, _, e⟩ := List.mem_map.mp this
        rw [← e]
        exact p2_deep _
      have s17 := same_new (o := .lst (Z.map fun z => V.ref z.1)) nl
      have K17 : Kys (upd H16 l (.lst (Z.map fun z => V.ref z.1))) l Z (dueM (L.map (·.2)) z t.2.1 j r) := ⟨upd_same, fun y hy => s17 _ _ (hZ y hy), fun y hy => by
        have : y.2 ∈ Z.map (·.2) := List.mem_map.mpr ⟨y, hy, rfl⟩
        rw [eZ] at this
        have := (List.mergeSort_perm ..).mem_iff.mp this
        rw [hO.keys] at this
        obtain ⟨c, hc, e⟩ := List.mem_map.mp this
        exact ⟨c, hc, e.symm⟩⟩
      have T17 := T16.same s17
      have a17 := a16.same s17
      have o17 := ov3.same s17
      have s4e := s4d.trans s17
      clear hDk hO T16 a16 ov3 eK
      generalize upd H16 l (.lst (Z.map fun z => V.ref z.1)) = H17 at s17 K17 T17 a17 o17 s4e ⊢
      have nD4 : H4 D = none := s49.free nD
      have Zl : ∀ {M : MP} {H' : Hp}, Kys H' l Z M → (Z.map fun z => V.ref z.1).length = Z.length := fun _ => List.length_map ..
      refine ⟨fun σ H' => ∃ (M : MP) (y12 : Option V), Tri K H9 H' D M ∧ Kys H' l Z M ∧ OAt K H' v3 o3 ∧ AtS K H' v r ∧ Same H4 H' ∧ σ = [some (.ref a), some (.ref dr), some (.ref hp), some (.ref Da), some (.int (k : Int)), some (.int t.2.1), some (.str z), some (.int (j : Int)), some v, some (.ref D), some v3, some (.ref l), y12, y13, y14, y15], ?_, ?_⟩
      · have skip : ∃ (M : MP) (y12_1 : Option V), Tri K H9 H17 D M ∧ Kys H17 l Z M ∧ OAt K H17 v3 o3 ∧ AtS K H17 v r ∧ Same H4 H17 ∧ [some (.ref a), some (.ref dr), some (.ref hp), some (.ref Da), some (.int (k : Int)), some (.int t.2.1), some (.str z), some (.int (j : Int)), some v, some (.ref D), some v3, some (.ref l), y12, y13, y14, y15] = [some (.ref a), some (.ref dr), some (.ref hp), some (.ref Da), some (.int (k : Int)), some (.int t.2.1), some (.str z), some (.int (j : Int)), some v, some (.ref D), some v3, some (.ref l), y12_1, y13, y14, y15] := ⟨_, _, T17, K17, o17, a17, s4e, rfl⟩
        refine ⟨_, rfl, _, _, rfl, .inl (SqL.of K17.at_), _, _, rfl, rfl, _, rfl, ite2 (fun c1 => ?_) (fun c1 => iteF skip)⟩
        refine ⟨_, rfl, _, rfl, _, _, rfl, rfl, dr, ds, 66 + (k : Int), 2, rfl, s4e.seq dr4, hD, by omega, by omega, by omega, fun g3 g30 g31 => ?_⟩
        refine ⟨rfl, _, rfl, ite2 (fun c3 => ?_) (fun c3 => skip)⟩
        have zpos : 0 < Z.length := by have := of_decide_eq_true c1; rw [Zl K17] at this; omega
        refine ⟨_, rfl, _, rfl, _, rfl, _, _, rfl, rfl, _, rfl, _, _, rfl, .inl (SqL.of K17.at_), dr, ds, 72 + (k : Int), _, rfl, s4e.seq dr4, hD, by omega, by omega, by rw [Zl K17]; omega, fun g4 g40 g41 => ?_⟩
        rw [Zl K17] at g41
        obtain ⟨y, hy, ym⟩ := at_map (fun q : Addr × List Key => V.ref q.1) (xs := Z) (i := g4) g40 g41
        obtain ⟨c, hc, ey⟩ := K17.km y ym
        refine ⟨l, _, _, _, rfl, rfl, SqL.of K17.at_, hy, ?_⟩
        have ty : H17 y.1 = some (.tup [.int c.1.1, .int c.1.2]) := by have := K17.kt y ym; rw [ey] at this; exact this
        refine ⟨_, rfl, _, rfl, y.1, _, _, _, rfl, rfl, SqT.of ty, atI_nat (j := 0) rfl, sz2, fun u1 nu1 => ?_⟩
        have p1 := same_new (o := .tup [.int t.2.1, .int c.1.1]) nu1
        have hu1 : (upd H17 u1 (.tup [.int t.2.1, .int c.1.1])) u1 = some (.tup [.int t.2.1, .int c.1.1]) := upd_same
        generalize upd H17 u1 (.tup [.int t.2.1, .int c.1.1]) = Ha at p1 hu1 ⊢
        refine ⟨_, rfl, _, rfl, y.1, _, _, _, rfl, rfl, SqT.of (p1 _ _ ty), atI_nat (j := 0) rfl, _, _, rfl, rfl, sz2, fun u2 nu2 => ?_⟩
        have p2 := same_new (o := .tup [.int t.2.1, .int (c.1.1 + 1)]) nu2
        have hu2 : (upd Ha u2 (.tup [.int t.2.1, .int (c.1.1 + 1)])) u2 = some (.tup [.int t.2.1, .int (c.1.1 + 1)]) := upd_same
        generalize upd Ha u2 (.tup [.int t.2.1, .int (c.1.1 + 1)]) = Hb at p2 hu2 ⊢
        refine ⟨sz2, fun u3 nu3 => ?_⟩
        have p3 := same_new (o := .tup [.int 99, .int 0]) nu3
        have hu3 : (upd Hb u3 (.tup [.int 99, .int 0])) u3 = some (.tup [.int 99, .int 0]) := upd_same
        generalize upd Hb u3 (.tup [.int 99, .int 0]) = Hc at p3 hu3 ⊢
        refine ⟨sz3, fun lo nlo => ?_⟩
        have p4 := same_new (o := .lst [.ref u1, .ref u2, .ref u3]) nlo
        have hlo : (upd Hc lo (.lst [.ref u1, .ref u2, .ref u3])) lo = some (.lst [.ref u1, .ref u2, .ref u3]) := upd_same
        generalize upd Hc lo (.lst [.ref u1, .ref u2, .ref u3]) = Hd at p4 hlo ⊢
        have p14 := p1.trans (p2.trans (p3.trans p4))
        refine ⟨_, rfl, _, rfl, _, _, rfl, rfl, dr, ds, 78 + (k : Int), 3, rfl, (s4e.trans p14).seq dr4, hD, by omega, by omega, by omega, fun g5 g50 g51 => ?_⟩
        have cb := (T17.mb.2 c hc).1
        obtain ⟨vv, pp, hvv, pvv, b1, b2⟩ : ∃ vv pp, atI [V.ref u1, .ref u2, .ref u3] g5 = some vv ∧ PrAt K Hd vv pp ∧ pp.1.natAbs < 1000 ∧ pp.2.natAbs < 1000 := by
          have : g5 = 0 ∨ g5 = 1 ∨ g5 = 2 := by omega
          rcases this with e | e | e <;> subst e
          · exact ⟨_, (t.2.1, c.1.1), rfl, ⟨u1, rfl, SqT.of (p4 _ _ (p3 _ _ (p2 _ _ hu1)))⟩, by show t.2.1.natAbs < 1000; omega, by show c.1.1.natAbs < 1000; omega⟩
          · exact ⟨_, (t.2.1, c.1.1 + 1), rfl, ⟨u2, rfl, SqT.of (p4 _ _ (p3 _ _ hu2))⟩, by show t.2.1.natAbs < 1000; omega, by show (c.1.1 + 1).natAbs < 1000; omega⟩
          · exact ⟨_, (99, 0), rfl, ⟨u3, rfl, SqT.of (p4 _ _ hu3)⟩, by decide, by decide⟩
        refine ⟨lo, _, _, _, rfl, rfl, SqL.of hlo, hvv, ?_⟩
        have TD := T17.same p14
        have KD := K17.same p14
        obtain ⟨kvd, hDd, hOd⟩ := TD.dc
        have tyd : Hd y.1 = some (.tup ((k2 c.1).map kV)) := p14 _ _ ty
        refine ⟨_, rfl, _, rfl, D, _, rfl, DPut.t hDd tyd (by rw [othAt_len hOd]; exact Nat.lt_of_le_of_lt T17.mb.1 (by decide)), ?_⟩
        refine ⟨putM (dueM (L.map (·.2)) z t.2.1 j r) c.1 pp, _, ⟨same_mut TD.sm nD, nD, ⟨_, upd_same, (hOd.put pvv).but hDd but_upd⟩, T17.mb.put hc b1 b2⟩, KD.but hDd but_upd putM_keys, (o17.same p14).but hDd but_upd, (a17.same p14).but hDd but_upd, same_mut (s4e.trans p14) nD4, rfl⟩
      · rintro σ H18 ⟨M, y12, T18, K18, o18, a18, s4f, rfl⟩
        refine ⟨fun σ H' => ∃ (M : MP), Tri K H9 H' D M ∧ OAt K H' v3 o3 ∧ AtS K H' v r ∧ Same H4 H' ∧ σ = [some (.ref a), some (.ref dr), some (.ref hp), some (.ref Da), some (.int (k : Int)), some (.int t.2.1), some (.str z), some (.int (j : Int)), some v, some (.ref D), some v3, some (.ref l), y12, y13, y14, y15], ?_, ?_⟩
        · refine ⟨_, rfl, _, _, rfl, .inl (SqL.of K18.at_), _, _, rfl, rfl, _, rfl, ite2 (fun c1 => ?_) (fun c1 => iteF ⟨M, T18, o18, a18, s4f, rfl⟩)⟩
          refine ⟨_, rfl, _, rfl, _, _, rfl, rfl, dr, ds, 84 + (k : Int), 5, rfl, s4f.seq dr4, hD, by omega, by omega, by omega, fun g3 g30 g31 => ?_⟩
          refine ⟨rfl, _, rfl, ite2 (fun c3 => ?_) (fun c3 => ⟨M, T18, o18, a18, s4f, rfl⟩)⟩
          cases Z with
          | nil => exact absurd (of_decide_eq_true c1) (by simp)
          | cons y Z =>
            obtain ⟨c, hc, ey⟩ := K18.km y (List.mem_cons_self ..)
            have ty : H18 y.1 = some (.tup ((k2 c.1).map kV)) := by have := K18.kt y (List.mem_cons_self ..); rw [ey] at this; exact this
            obtain ⟨kvd, hDd, hOd⟩ := T18.dc
            refine ⟨_, rfl, .inr (.inr (.inl ⟨rfl, .inr ⟨_, hDd⟩⟩)), _, rfl, l, _, _, _, rfl, rfl, SqL.of K18.at_, atI_nat (j := 0) rfl, ?_⟩
            obtain ⟨x, hx⟩ := lkM_isSome (M := M) (List.mem_map.mpr ⟨c, hc, rfl⟩)
            rcases hOd.look c.1 with ⟨n1, n2⟩ | ⟨v1, p1, n1, n2, n3⟩
            · rw [hx] at n2; cases n2
            · refine ⟨D, kvd, k2 c.1, y.1, v1, rfl, rfl, hDd, ty, n1, ?_⟩
              exact ⟨dropM M c.1, ⟨same_mut T18.sm nD, nD, ⟨_, upd_same, (hOd.drop c.1).but hDd but_upd⟩, T18.mb.drop c.1⟩, o18.but hDd but_upd, a18.but hDd but_upd, same_mut s4f nD4, rfl⟩
        · rintro σ H19 ⟨M2, T19, o19, a19, s4g, rfl⟩
          clear T18 K18 o18 a18 s4f T17 K17 o17 a17 s4e hZ eZ
          have house : ∀ {H' : Hp}, Same H19 H' → HsAt K H' hp L := fun s => hA4.same (s4g.trans s)
          have rep : ∀ {H' : Hp}, Same H19 H' → TAll K H' [.ref hp, .ref D] [dH (L.map (·.2)), .dict ((M2.map fun c => (k2 c.1, dP2 c.2)).map fun c => (tKey c.1, c.2))] 3 18000 := fun {H'} s => by
            obtain ⟨kvd, hDd, hOd⟩ := (T19.same s).dc
            refine .cons ((told_flat (dp_house (house s)) (shw_hs lets hh.num txx (by rw [List.length_map]; exact hlen))).mono (by omega) (by omega)) (.cons ((OthAt.told hDd hOd fun c hc => ?_).mono (by omega) (by have := T19.mb.1; omega)) .nil)
            have := T19.mb.2 c hc
            omega
          refine ⟨_, rfl, _, rfl, sz2, fun u nu => ?_⟩
          have su := same_new (o := .tup [.ref hp, .ref D]) nu
          have hu : (upd H19 u (.tup [.ref hp, .ref D])) u = some (.tup [.ref hp, .ref D]) := upd_same
          generalize upd H19 u (.tup [.ref hp, .ref D]) = H20 at su hu ⊢
          refine ⟨u, _, _, 3, 18000, rfl, SqT.of hu, rep su, by omega, (by show 2 * (18000 + 1) ≤ 1048576; decide), ?_⟩
          generalize eSh : PyData.shown (.tuple [dH (L.map (·.2)), .dict ((M2.map fun c => (k2 c.1, dP2 c.2)).map fun c => (tKey c.1, c.2))]) = sh
          obtain ⟨kvd, hDd, hOd⟩ := (T19.same su).dc
          refine ⟨_, rfl, _, rfl, _, rfl, _, rfl, _, rfl, hp, L, t.2.1, (j : Int), v3, .ref D, rfl, house su, by omega, tx, sN, sJ, fun e => by rw [hlk] at e; (first | cases e | exact nomatch e), fun z' hz' => ?_⟩
          rw [hlk] at hz'
          obtain rfl := Option.some.inj hz'
          refine ⟨fun bad => absurd ⟨by omega, by omega⟩ bad, fun j' ej hj2 => ?_⟩
          obtain rfl : j = j' := by omega
          refine ⟨o3, D, kvd, M2, rfl, o19.same su, hDd, hOd, fun H21 s21 => ?_⟩
          have due_le' := fun (a b : Int) (e : o3 = some (a, b)) (hb : dueB (L.map (·.2)) z t.2.1 j o3 M2 = true) => due_le asc (lk_mem hlk) lst (a := a) (b := b) (M := M2) (by rw [e] at hb; exact hb)
          generalize eb : dueB (L.map (·.2)) z t.2.1 j o3 M2 = b at due_le' ⊢
          have su2 := su.trans s21
          refine ⟨_, rfl, _, _, _, _, true, rfl, .ty "bool", .base (.bl _), kit_ty (by decide +kernel), _, rfl, iteF ?_⟩
          obtain ⟨kve, hDe, hOe⟩ := (T19.same su2).dc
          refine ⟨_, rfl, _, rfl, _, rfl, _, rfl, _, rfl, _, rfl, hp, L, t.2.1, z, j, v3, o3, D, kve, M2, rfl, house su2, by omega, tx, asc, hlk, hj, o19.same su2, hDe, hOe, fun H22 s22 => ?_⟩
          rw [eb]
          refine ⟨rfl, _, rfl, ite2 (fun c => absurd c (by cases b <;> decide)) (fun _ => ?_)⟩
          have su3 := su2.trans s22
          refine ⟨_, rfl, _, rfl, sz2, fun u9 nu9 => ?_⟩
          have s9 := same_new (o := .tup [.ref hp, .ref D]) nu9
          have hu9 : (upd H22 u9 (.tup [.ref hp, .ref D])) u9 = some (.tup [.ref hp, .ref D]) := upd_same
          generalize upd H22 u9 (.tup [.ref hp, .ref D]) = H23 at s9 hu9 ⊢
          have su4 := su3.trans s9
          refine ⟨u9, _, _, 3, 18000, rfl, SqT.of hu9, rep su4, by omega, (by show 2 * (18000 + 1) ≤ 1048576; decide), ?_⟩
          rw [eSh]
          refine ⟨_, rfl, rfl, _, rfl, ite2 (fun c => absurd c (by simp)) (fun _ => ?_)⟩
          have fin : Same H4 H23 ∧ ∃ y4 y5 y6 y7 y8 y9 y10 y11 y12_1 y13 y14 y15_1 : Option V, [some (.ref a), some (.ref dr), some (.ref hp), some (.ref Da), some (.int (k : Int)), some (.int t.2.1), some (.str z), some (.int (j : Int)), some v, some (.ref D), some v3, some (.ref l), y12, some (.str sh), some (.bl b), y15] = [some (.ref a), some (.ref dr), some (.ref hp), some (.ref Da), y4, y5, y6, y7, y8, y9, y10, y11, y12_1, y13, y14, y15_1] := ⟨s4g.trans su4, _, _, _, _, _, _, _, _, _, _, _, _, rfl⟩
          cases b with
          | false => exact ⟨_, rfl, _, rfl, iteF (iteF fin)⟩
          | true =>
            refine ⟨_, rfl, _, rfl, iteT ?_⟩
            cases o3 with
            | none =>
              obtain rfl : v3 = .non := o19
              exact ⟨_, rfl, rfl, _, rfl, iteF (iteF fin)⟩
            | some p3 =>
              obtain ⟨t3, rfl, ht3⟩ := o19.same su4
              refine ⟨_, rfl, rfl, _, rfl, iteT ?_⟩
              obtain ⟨s0, m0, er, hle⟩ := due_le' p3.1 p3.2 rfl rfl
              subst er
              obtain ⟨tv, rfl, htv⟩ := a19.same su4
              refine ⟨_, rfl, rfl, _, rfl, iteF ?_⟩
              refine ⟨_, rfl, t3, _, _, _, rfl, rfl, ht3, atI_nat (j := 1) rfl, _, rfl, t3, _, _, _, rfl, rfl, ht3, atI_nat (j := 0) rfl, _, _, rfl, rfl, ?_⟩
              refine ⟨_, rfl, tv, _, _, _, rfl, rfl, SqT.of htv, atI_nat (j := 1) rfl, _, rfl, tv, _, _, _, rfl, rfl, SqT.of htv, atI_nat (j := 0) rfl, _, _, rfl, rfl, ?_⟩
              refine ⟨_, _, rfl, rfl, _, rfl, ite2 (fun c => absurd (of_decide_eq_true c) (by omega)) (fun _ => fin)⟩
end

end SH
set_option Elab.async false
set_option linter.all false
set_option maxRecDepth 100000
set_option maxHeartbeats 4000000
namespace SH
open PySem PySem.Spec PyProof.Rows L2
theorem law_all {P : Program} {w : World} {K : PySem.W.Frag} {mg : Str → Option Value} {base : Heap} {ea : Ea} {f : Addr} {fd : FuncData} (T : Txt K mg ea) (F : Fun K "law" "law" s_law f fd) : FnG P w K mg base 10 f fd ["script"] (spLaw K) :=
  have mix := ok__law_mix (P := P) (w := w) (base := base) T
  have pl := ok_places (P := P) (w := w) (base := base) T
  have cnt := ok_count T pl
  have twl := ok_text_with_letter T (ok_text_of T)
  have over := ok_stretches_over (P := P) (w := w) (base := base) T
  have ask := ok__asked_stretches T over
  have oth := ok__other_places T pl
  have ss := ok_shortest_single T twl over cnt
  have sp := ok_single_places T ss (ok_text_of T) ask oth
  have chk := ok_check_single T twl (ok__is_single_over T cnt) ask oth
  have named := ok__law_named (P := P) (w := w) (base := base) T
  have lpl := ok__law_places (P := P) (w := w) (base := base) T
  ok_law T F (ok__law_draws T) mix (ok__law_house T mix (ok__law_text T mix)) (ok__law_is_refused T mix (ok__law_told T sp chk)) ss sp (ok__law_others T named lpl) chk (ok__law_due T named lpl)
theorem all_mk {P : Program} {w : World} {K : PySem.W.Frag} {h : Heap} {mg : Str → Option Value} {fa : Addr} (X : K.In h) (G : h.Ns mainGlobals mg) (hfa : mg "law" = some (.ref fa))
    {f_text_of f_places f_count f_shortest_single f_text_with_letter f_stretches_over f_single_places f_check_single f__asked_stretches f__other_places f__is_single_over f__law_draws f__law_mix f__law_text f__law_house f__law_places f__law_named f__law_others f__law_due f__law_told f__law_is_refused f_law : Addr}
    {od_text_of an_text_of od_places an_places od_count an_count od_shortest_single an_shortest_single od_text_with_letter an_text_with_letter od_stretches_over an_stretches_over od_single_places an_single_places od_check_single an_check_single od__asked_stretches an__asked_stretches od__other_places an__other_places od__is_single_over an__is_single_over od__law_draws an__law_draws od__law_mix an__law_mix od__law_text an__law_text od__law_house an__law_house od__law_places an__law_places od__law_named an__law_named od__law_others an__law_others od__law_due an__law_due od__law_told an__law_told od__law_is_refused an__law_is_refused od_law an_law : Option Addr}
    {sl_text_of sl_places sl_count sl_shortest_single sl_text_with_letter sl_stretches_over sl_single_places sl_check_single sl__asked_stretches sl__other_places sl__is_single_over sl__law_draws sl__law_mix sl__law_text sl__law_house sl__law_places sl__law_named sl__law_others sl__law_due sl__law_told sl__law_is_refused sl_law : Array (Option Value)}
    {oc_text_of kV_text_of dc_text_of pm_text_of cd_text_of ct_text_of oc_places kV_places dc_places pm_places cd_places ct_places oc_count kV_count dc_count pm_count cd_count ct_count oc_shortest_single kV_shortest_single dc_shortest_single pm_shortest_single cd_shortest_single ct_shortest_single oc_text_with_letter kV_text_with_letter dc_text_with_letter pm_text_with_letter cd_text_with_letter ct_text_with_letter oc_stretches_over kV_stretches_over dc_stretches_over pm_stretches_over cd_stretches_over ct_stretches_over oc_single_places kV_single_places dc_single_places pm_single_places cd_single_places ct_single_places oc_check_single kV_check_single dc_check_single pm_check_single cd_check_single ct_check_single oc__asked_stretches kV__asked_stretches dc__asked_stretches pm__asked_stretches cd__asked_stretches ct__asked_stretches oc__other_places kV__other_places dc__other_places pm__other_places cd__other_places ct__other_places oc__is_single_over kV__is_single_over dc__is_single_over pm__is_single_over cd__is_single_over ct__is_single_over oc__law_draws kV__law_draws dc__law_draws pm__law_draws cd__law_draws ct__law_draws oc__law_mix kV__law_mix dc__law_mix pm__law_mix cd__law_mix ct__law_mix oc__law_text kV__law_text dc__law_text pm__law_text cd__law_text ct__law_text oc__law_house kV__law_house dc__law_house pm__law_house cd__law_house ct__law_house oc__law_places kV__law_places dc__law_places pm__law_places cd__law_places ct__law_places oc__law_named kV__law_named dc__law_named pm__law_named cd__law_named ct__law_named oc__law_others kV__law_others dc__law_others pm__law_others cd__law_others ct__law_others oc__law_due kV__law_due dc__law_due pm__law_due cd__law_due ct__law_due oc__law_told kV__law_told dc__law_told pm__law_told cd__law_told ct__law_told oc__law_is_refused kV__law_is_refused dc__law_is_refused pm__law_is_refused cd__law_is_refused ct__law_is_refused oc_law kV_law dc_law pm_law cd_law ct_law : Value}
    {fI : Addr} {odI anI : Option Addr} {slI : Array (Option Value)} {ocI kVI dcI pmI cdI ctI : Value}
    {C_HouseError N_HouseError C_NoText N_NoText C_OutOfRange N_OutOfRange : Addr}
    {nm_HouseError q_HouseError : Str} {bs_HouseError : List Value} {sn_HouseError : List Str} {sub_HouseError : List Value} {ab_HouseError : Bool} {col_HouseError : Option Bool} {dd_HouseError : Option Addr} {m0_HouseError m1_HouseError m2_HouseError m3_HouseError m5_HouseError : Option Value}
    {nm_NoText q_NoText : Str} {bs_NoText : List Value} {sn_NoText : List Str} {sub_NoText : List Value} {ab_NoText : Bool} {col_NoText : Option Bool} {dd_NoText : Option Addr} {m0_NoText m1_NoText m2_NoText m3_NoText m5_NoText : Option Value}
    {nm_OutOfRange q_OutOfRange : Str} {bs_OutOfRange : List Value} {sn_OutOfRange : List Str} {sub_OutOfRange : List Value} {ab_OutOfRange : Bool} {col_OutOfRange : Option Bool} {dd_OutOfRange : Option Addr} {m0_OutOfRange m1_OutOfRange m2_OutOfRange m3_OutOfRange m5_OutOfRange : Option Value}
    (z_abs : PySem.W.nsIn K mainGlobals "abs" = some none)
    (z_bool : PySem.W.nsIn K mainGlobals "bool" = some none)
    (z_dict : PySem.W.nsIn K mainGlobals "dict" = some none)
    (z_int : PySem.W.nsIn K mainGlobals "int" = some none)
    (z_isinstance : PySem.W.nsIn K mainGlobals "isinstance" = some none)
    (z_len : PySem.W.nsIn K mainGlobals "len" = some none)
    (z_list : PySem.W.nsIn K mainGlobals "list" = some none)
    (z_max : PySem.W.nsIn K mainGlobals "max" = some none)
    (z_min : PySem.W.nsIn K mainGlobals "min" = some none)
    (z_range : PySem.W.nsIn K mainGlobals "range" = some none)
    (z_repr : PySem.W.nsIn K mainGlobals "repr" = some none)
    (z_sorted : PySem.W.nsIn K mainGlobals "sorted" = some none)
    (a_text_of : PySem.W.nsIn K mainGlobals "text_of" = some (some (.ref f_text_of)))
    (l_text_of : K.lookup f_text_of = some ⟨oc_text_of, od_text_of, .func (PySem.W.fnOf "text_of" "text_of" (defArgs s_text_of) (defBody s_text_of) (defScope s_text_of) .none kV_text_of dc_text_of pm_text_of an_text_of cd_text_of ct_text_of), sl_text_of⟩)
    (c_text_of : PySem.W.codeIn K cd_text_of "text_of" = true)
    (k_text_of : PySem.W.keepIn K (.ref f_text_of) = true)
    (a_places : PySem.W.nsIn K mainGlobals "places" = some (some (.ref f_places)))
    (l_places : K.lookup f_places = some ⟨oc_places, od_places, .func (PySem.W.fnOf "places" "places" (defArgs s_places) (defBody s_places) (defScope s_places) .none kV_places dc_places pm_places an_places cd_places ct_places), sl_places⟩)
    (c_places : PySem.W.codeIn K cd_places "places" = true)
    (k_places : PySem.W.keepIn K (.ref f_places) = true)
    (a_count : PySem.W.nsIn K mainGlobals "count" = some (some (.ref f_count)))
    (l_count : K.lookup f_count = some ⟨oc_count, od_count, .func (PySem.W.fnOf "count" "count" (defArgs s_count) (defBody s_count) (defScope s_count) .none kV_count dc_count pm_count an_count cd_count ct_count), sl_count⟩)
    (c_count : PySem.W.codeIn K cd_count "count" = true)
    (k_count : PySem.W.keepIn K (.ref f_count) = true)
    (a_shortest_single : PySem.W.nsIn K mainGlobals "shortest_single" = some (some (.ref f_shortest_single)))
    (l_shortest_single : K.lookup f_shortest_single = some ⟨oc_shortest_single, od_shortest_single, .func (PySem.W.fnOf "shortest_single" "shortest_single" (defArgs s_shortest_single) (defBody s_shortest_single) (defScope s_shortest_single) .none kV_shortest_single dc_shortest_single pm_shortest_single an_shortest_single cd_shortest_single ct_shortest_single), sl_shortest_single⟩)
    (c_shortest_single : PySem.W.codeIn K cd_shortest_single "shortest_single" = true)
    (k_shortest_single : PySem.W.keepIn K (.ref f_shortest_single) = true)
    (a_text_with_letter : PySem.W.nsIn K mainGlobals "text_with_letter" = some (some (.ref f_text_with_letter)))
    (l_text_with_letter : K.lookup f_text_with_letter = some ⟨oc_text_with_letter, od_text_with_letter, .func (PySem.W.fnOf "text_with_letter" "text_with_letter" (defArgs s_text_with_letter) (defBody s_text_with_letter) (defScope s_text_with_letter) .none kV_text_with_letter dc_text_with_letter pm_text_with_letter an_text_with_letter cd_text_with_letter ct_text_with_letter), sl_text_with_letter⟩)
    (c_text_with_letter : PySem.W.codeIn K cd_text_with_letter "text_with_letter" = true)
    (k_text_with_letter : PySem.W.keepIn K (.ref f_text_with_letter) = true)
    (a_stretches_over : PySem.W.nsIn K mainGlobals "stretches_over" = some (some (.ref f_stretches_over)))
    (l_stretches_over : K.lookup f_stretches_over = some ⟨oc_stretches_over, od_stretches_over, .func (PySem.W.fnOf "stretches_over" "stretches_over" (defArgs s_stretches_over) (defBody s_stretches_over) (defScope s_stretches_over) .none kV_stretches_over dc_stretches_over pm_stretches_over an_stretches_over cd_stretches_over ct_stretches_over), sl_stretches_over⟩)
    (c_stretches_over : PySem.W.codeIn K cd_stretches_over "stretches_over" = true)
    (k_stretches_over : PySem.W.keepIn K (.ref f_stretches_over) = true)
    (a_single_places : PySem.W.nsIn K mainGlobals "single_places" = some (some (.ref f_single_places)))
    (l_single_places : K.lookup f_single_places = some ⟨oc_single_places, od_single_places, .func (PySem.W.fnOf "single_places" "single_places" (defArgs s_single_places) (defBody s_single_places) (defScope s_single_places) .none kV_single_places dc_single_places pm_single_places an_single_places cd_single_places ct_single_places), sl_single_places⟩)
    (c_single_places : PySem.W.codeIn K cd_single_places "single_places" = true)
    (k_single_places : PySem.W.keepIn K (.ref f_single_places) = true)
    (a_check_single : PySem.W.nsIn K mainGlobals "check_single" = some (some (.ref f_check_single)))
    (l_check_single : K.lookup f_check_single = some ⟨oc_check_single, od_check_single, .func (PySem.W.fnOf "check_single" "check_single" (defArgs s_check_single) (defBody s_check_single) (defScope s_check_single) .none kV_check_single dc_check_single pm_check_single an_check_single cd_check_single ct_check_single), sl_check_single⟩)
    (c_check_single : PySem.W.codeIn K cd_check_single "check_single" = true)
    (k_check_single : PySem.W.keepIn K (.ref f_check_single) = true)
    (a__asked_stretches : PySem.W.nsIn K mainGlobals "_asked_stretches" = some (some (.ref f__asked_stretches)))
    (l__asked_stretches : K.lookup f__asked_stretches = some ⟨oc__asked_stretches, od__asked_stretches, .func (PySem.W.fnOf "_asked_stretches" "_asked_stretches" (defArgs s__asked_stretches) (defBody s__asked_stretches) (defScope s__asked_stretches) .none kV__asked_stretches dc__asked_stretches pm__asked_stretches an__asked_stretches cd__asked_stretches ct__asked_stretches), sl__asked_stretches⟩)
    (c__asked_stretches : PySem.W.codeIn K cd__asked_stretches "_asked_stretches" = true)
    (k__asked_stretches : PySem.W.keepIn K (.ref f__asked_stretches) = true)
    (a__other_places : PySem.W.nsIn K mainGlobals "_other_places" = some (some (.ref f__other_places)))
    (l__other_places : K.lookup f__other_places = some ⟨oc__other_places, od__other_places, .func (PySem.W.fnOf "_other_places" "_other_places" (defArgs s__other_places) (defBody s__other_places) (defScope s__other_places) .none kV__other_places dc__other_places pm__other_places an__other_places cd__other_places ct__other_places), sl__other_places⟩)
    (c__other_places : PySem.W.codeIn K cd__other_places "_other_places" = true)
    (k__other_places : PySem.W.keepIn K (.ref f__other_places) = true)
    (a__is_single_over : PySem.W.nsIn K mainGlobals "_is_single_over" = some (some (.ref f__is_single_over)))
    (l__is_single_over : K.lookup f__is_single_over = some ⟨oc__is_single_over, od__is_single_over, .func (PySem.W.fnOf "_is_single_over" "_is_single_over" (defArgs s__is_single_over) (defBody s__is_single_over) (defScope s__is_single_over) .none kV__is_single_over dc__is_single_over pm__is_single_over an__is_single_over cd__is_single_over ct__is_single_over), sl__is_single_over⟩)
    (c__is_single_over : PySem.W.codeIn K cd__is_single_over "_is_single_over" = true)
    (k__is_single_over : PySem.W.keepIn K (.ref f__is_single_over) = true)
    (a__law_draws : PySem.W.nsIn K mainGlobals "_law_draws" = some (some (.ref f__law_draws)))
    (l__law_draws : K.lookup f__law_draws = some ⟨oc__law_draws, od__law_draws, .func (PySem.W.fnOf "_law_draws" "_law_draws" (defArgs s__law_draws) (defBody s__law_draws) (defScope s__law_draws) .none kV__law_draws dc__law_draws pm__law_draws an__law_draws cd__law_draws ct__law_draws), sl__law_draws⟩)
    (c__law_draws : PySem.W.codeIn K cd__law_draws "_law_draws" = true)
    (k__law_draws : PySem.W.keepIn K (.ref f__law_draws) = true)
    (a__law_mix : PySem.W.nsIn K mainGlobals "_law_mix" = some (some (.ref f__law_mix)))
    (l__law_mix : K.lookup f__law_mix = some ⟨oc__law_mix, od__law_mix, .func (PySem.W.fnOf "_law_mix" "_law_mix" (defArgs s__law_mix) (defBody s__law_mix) (defScope s__law_mix) .none kV__law_mix dc__law_mix pm__law_mix an__law_mix cd__law_mix ct__law_mix), sl__law_mix⟩)
    (c__law_mix : PySem.W.codeIn K cd__law_mix "_law_mix" = true)
    (k__law_mix : PySem.W.keepIn K (.ref f__law_mix) = true)
    (a__law_text : PySem.W.nsIn K mainGlobals "_law_text" = some (some (.ref f__law_text)))
    (l__law_text : K.lookup f__law_text = some ⟨oc__law_text, od__law_text, .func (PySem.W.fnOf "_law_text" "_law_text" (defArgs s__law_text) (defBody s__law_text) (defScope s__law_text) .none kV__law_text dc__law_text pm__law_text an__law_text cd__law_text ct__law_text), sl__law_text⟩)
    (c__law_text : PySem.W.codeIn K cd__law_text "_law_text" = true)
    (k__law_text : PySem.W.keepIn K (.ref f__law_text) = true)
    (a__law_house : PySem.W.nsIn K mainGlobals "_law_house" = some (some (.ref f__law_house)))
    (l__law_house : K.lookup f__law_house = some ⟨oc__law_house, od__law_house, .func (PySem.W.fnOf "_law_house" "_law_house" (defArgs s__law_house) (defBody s__law_house) (defScope s__law_house) .none kV__law_house dc__law_house pm__law_house an__law_house cd__law_house ct__law_house), sl__law_house⟩)
    (c__law_house : PySem.W.codeIn K cd__law_house "_law_house" = true)
    (k__law_house : PySem.W.keepIn K (.ref f__law_house) = true)
    (a__law_places : PySem.W.nsIn K mainGlobals "_law_places" = some (some (.ref f__law_places)))
    (l__law_places : K.lookup f__law_places = some ⟨oc__law_places, od__law_places, .func (PySem.W.fnOf "_law_places" "_law_places" (defArgs s__law_places) (defBody s__law_places) (defScope s__law_places) .none kV__law_places dc__law_places pm__law_places an__law_places cd__law_places ct__law_places), sl__law_places⟩)
    (c__law_places : PySem.W.codeIn K cd__law_places "_law_places" = true)
    (k__law_places : PySem.W.keepIn K (.ref f__law_places) = true)
    (a__law_named : PySem.W.nsIn K mainGlobals "_law_named" = some (some (.ref f__law_named)))
    (l__law_named : K.lookup f__law_named = some ⟨oc__law_named, od__law_named, .func (PySem.W.fnOf "_law_named" "_law_named" (defArgs s__law_named) (defBody s__law_named) (defScope s__law_named) .none kV__law_named dc__law_named pm__law_named an__law_named cd__law_named ct__law_named), sl__law_named⟩)
    (c__law_named : PySem.W.codeIn K cd__law_named "_law_named" = true)
    (k__law_named : PySem.W.keepIn K (.ref f__law_named) = true)
    (a__law_others : PySem.W.nsIn K mainGlobals "_law_others" = some (some (.ref f__law_others)))
    (l__law_others : K.lookup f__law_others = some ⟨oc__law_others, od__law_others, .func (PySem.W.fnOf "_law_others" "_law_others" (defArgs s__law_others) (defBody s__law_others) (defScope s__law_others) .none kV__law_others dc__law_others pm__law_others an__law_others cd__law_others ct__law_others), sl__law_others⟩)
    (c__law_others : PySem.W.codeIn K cd__law_others "_law_others" = true)
    (k__law_others : PySem.W.keepIn K (.ref f__law_others) = true)
    (a__law_due : PySem.W.nsIn K mainGlobals "_law_due" = some (some (.ref f__law_due)))
    (l__law_due : K.lookup f__law_due = some ⟨oc__law_due, od__law_due, .func (PySem.W.fnOf "_law_due" "_law_due" (defArgs s__law_due) (defBody s__law_due) (defScope s__law_due) .none kV__law_due dc__law_due pm__law_due an__law_due cd__law_due ct__law_due), sl__law_due⟩)
    (c__law_due : PySem.W.codeIn K cd__law_due "_law_due" = true)
    (k__law_due : PySem.W.keepIn K (.ref f__law_due) = true)
    (a__law_told : PySem.W.nsIn K mainGlobals "_law_told" = some (some (.ref f__law_told)))
    (l__law_told : K.lookup f__law_told = some ⟨oc__law_told, od__law_told, .func (PySem.W.fnOf "_law_told" "_law_told" (defArgs s__law_told) (defBody s__law_told) (defScope s__law_told) .none kV__law_told dc__law_told pm__law_told an__law_told cd__law_told ct__law_told), sl__law_told⟩)
    (c__law_told : PySem.W.codeIn K cd__law_told "_law_told" = true)
    (k__law_told : PySem.W.keepIn K (.ref f__law_told) = true)
    (a__law_is_refused : PySem.W.nsIn K mainGlobals "_law_is_refused" = some (some (.ref f__law_is_refused)))
    (l__law_is_refused : K.lookup f__law_is_refused = some ⟨oc__law_is_refused, od__law_is_refused, .func (PySem.W.fnOf "_law_is_refused" "_law_is_refused" (defArgs s__law_is_refused) (defBody s__law_is_refused) (defScope s__law_is_refused) .none kV__law_is_refused dc__law_is_refused pm__law_is_refused an__law_is_refused cd__law_is_refused ct__law_is_refused), sl__law_is_refused⟩)
    (c__law_is_refused : PySem.W.codeIn K cd__law_is_refused "_law_is_refused" = true)
    (k__law_is_refused : PySem.W.keepIn K (.ref f__law_is_refused) = true)
    (a_law : PySem.W.nsIn K mainGlobals "law" = some (some (.ref f_law)))
    (l_law : K.lookup f_law = some ⟨oc_law, od_law, .func (PySem.W.fnOf "law" "law" (defArgs s_law) (defBody s_law) (defScope s_law) .none kV_law dc_law pm_law an_law cd_law ct_law), sl_law⟩)
    (c_law : PySem.W.codeIn K cd_law "law" = true)
    (k_law : PySem.W.keepIn K (.ref f_law) = true)
    (xg_HouseError : PySem.W.nsIn K mainGlobals "HouseError" = some (some (.ref C_HouseError)))
    (xx_HouseError : K.lookup C_HouseError = some (excClassObj nm_HouseError q_HouseError C_HouseError N_HouseError bs_HouseError [.type "ValueError", .type "Exception", .type "BaseException", .type "object"] true sn_HouseError sub_HouseError ab_HouseError col_HouseError dd_HouseError m0_HouseError m1_HouseError m2_HouseError m3_HouseError m5_HouseError "ValueError.__new__"))
    (xs_HouseError : PySem.W.findIn K (.ref C_HouseError) "__setattr__" = some (some (.builtin "object.__setattr__")))
    (xga_HouseError : PySem.W.findIn K (.ref C_HouseError) "__getattribute__" = some (some (.builtin "BaseException.__getattribute__")))
    (xgg_HouseError : PySem.W.findIn K (.ref C_HouseError) "__getattr__" = some none)
    (xat_HouseError : PySem.W.findIn K (.ref C_HouseError) "at" = some none)
    (xi_HouseError : PySem.W.findIn K (.ref C_HouseError) "__init__" = some (some (.ref fI)))
    (xb_HouseError : PySem.W.subIn K (.ref C_HouseError) (.type "BaseException") = some true)
    (xt_HouseError : PySem.W.typeIn K (.ref C_HouseError) = some (.type "type"))
    (xh_HouseError : PySem.W.hasDictIn K C_HouseError = true)
    (xk_HouseError : PySem.W.keepIn K (.ref C_HouseError) = true)
    (xis_HouseError : PySem.W.isClsIn K C_HouseError = true)
    (xg_NoText : PySem.W.nsIn K mainGlobals "NoText" = some (some (.ref C_NoText)))
    (xx_NoText : K.lookup C_NoText = some (excClassObj nm_NoText q_NoText C_NoText N_NoText bs_NoText (.ref C_HouseError :: [.type "ValueError", .type "Exception", .type "BaseException", .type "object"]) true sn_NoText sub_NoText ab_NoText col_NoText dd_NoText m0_NoText m1_NoText m2_NoText m3_NoText m5_NoText "ValueError.__new__"))
    (xs_NoText : PySem.W.findIn K (.ref C_NoText) "__setattr__" = some (some (.builtin "object.__setattr__")))
    (xga_NoText : PySem.W.findIn K (.ref C_NoText) "__getattribute__" = some (some (.builtin "BaseException.__getattribute__")))
    (xgg_NoText : PySem.W.findIn K (.ref C_NoText) "__getattr__" = some none)
    (xat_NoText : PySem.W.findIn K (.ref C_NoText) "at" = some none)
    (xi_NoText : PySem.W.findIn K (.ref C_NoText) "__init__" = some (some (.ref fI)))
    (xb_NoText : PySem.W.subIn K (.ref C_NoText) (.type "BaseException") = some true)
    (xt_NoText : PySem.W.typeIn K (.ref C_NoText) = some (.type "type"))
    (xh_NoText : PySem.W.hasDictIn K C_NoText = true)
    (xk_NoText : PySem.W.keepIn K (.ref C_NoText) = true)
    (xis_NoText : PySem.W.isClsIn K C_NoText = true)
    (xg_OutOfRange : PySem.W.nsIn K mainGlobals "OutOfRange" = some (some (.ref C_OutOfRange)))
    (xx_OutOfRange : K.lookup C_OutOfRange = some (excClassObj nm_OutOfRange q_OutOfRange C_OutOfRange N_OutOfRange bs_OutOfRange (.ref C_HouseError :: [.type "ValueError", .type "Exception", .type "BaseException", .type "object"]) true sn_OutOfRange sub_OutOfRange ab_OutOfRange col_OutOfRange dd_OutOfRange m0_OutOfRange m1_OutOfRange m2_OutOfRange m3_OutOfRange m5_OutOfRange "ValueError.__new__"))
    (xs_OutOfRange : PySem.W.findIn K (.ref C_OutOfRange) "__setattr__" = some (some (.builtin "object.__setattr__")))
    (xga_OutOfRange : PySem.W.findIn K (.ref C_OutOfRange) "__getattribute__" = some (some (.builtin "BaseException.__getattribute__")))
    (xgg_OutOfRange : PySem.W.findIn K (.ref C_OutOfRange) "__getattr__" = some none)
    (xat_OutOfRange : PySem.W.findIn K (.ref C_OutOfRange) "at" = some none)
    (xi_OutOfRange : PySem.W.findIn K (.ref C_OutOfRange) "__init__" = some (some (.ref fI)))
    (xb_OutOfRange : PySem.W.subIn K (.ref C_OutOfRange) (.type "BaseException") = some true)
    (xt_OutOfRange : PySem.W.typeIn K (.ref C_OutOfRange) = some (.type "type"))
    (xh_OutOfRange : PySem.W.hasDictIn K C_OutOfRange = true)
    (xk_OutOfRange : PySem.W.keepIn K (.ref C_OutOfRange) = true)
    (xis_OutOfRange : PySem.W.isClsIn K C_OutOfRange = true)
    (l_I : K.lookup fI = some ⟨ocI, odI, .func (PySem.W.fnOf "__init__" "HouseError.__init__" (defArgs s_init) (defBody s_init) (defScope s_init) .none kVI dcI pmI anI cdI ctI), slI⟩)
    (c_I : PySem.W.codeIn K cdI "HouseError.__init__" = true)
    (k_I : PySem.W.keepIn K (.ref fI) = true)
    (t_I : PySem.W.typeIn K (.ref fI) = some (.type "function"))
    (e_NoText_NoText : PySem.W.subIn K (.ref C_NoText) (.ref C_NoText) = some true)
    (e_NoText_OutOfRange : PySem.W.subIn K (.ref C_NoText) (.ref C_OutOfRange) = some false)
    (e_OutOfRange_NoText : PySem.W.subIn K (.ref C_OutOfRange) (.ref C_NoText) = some false)
    (e_OutOfRange_OutOfRange : PySem.W.subIn K (.ref C_OutOfRange) (.ref C_OutOfRange) = some true)
    : ∃ fd : FuncData, (∀ (s : Shared) (v : Value), BindsTo s fd ⟨[v], []⟩ [("script", v)]) ∧ ∀ base : Heap, K.In base → base.Ns mainGlobals mg → FnG P w K mg base 10 fa fd ["script"] (spLaw K) := by
  have e := hfa.symm.trans (PySem.W.mg_of X G a_law)
  cases e
  have T : Txt K mg ⟨fI, C_HouseError, C_NoText, C_OutOfRange⟩ := ⟨PySem.W.mg_none_of X G z_abs, PySem.W.mg_none_of X G z_bool, PySem.W.mg_none_of X G z_dict, PySem.W.mg_none_of X G z_int, PySem.W.mg_none_of X G z_isinstance, PySem.W.mg_none_of X G z_len, PySem.W.mg_none_of X G z_list, PySem.W.mg_none_of X G z_max, PySem.W.mg_none_of X G z_min, PySem.W.mg_none_of X G z_range, PySem.W.mg_none_of X G z_repr, PySem.W.mg_none_of X G z_sorted, ⟨_, _, fun_mk (st := s_text_of) l_text_of c_text_of k_text_of, PySem.W.mg_of X G a_text_of, (fun_mk (st := s_text_of) l_text_of c_text_of k_text_of).binds (ps := ["house", "number"]) fun _ _ _ _ _ _ us hl => match us, hl with | [_, _], _ => rfl⟩, ⟨_, _, fun_mk (st := s_places) l_places c_places k_places, PySem.W.mg_of X G a_places, (fun_mk (st := s_places) l_places c_places k_places).binds (ps := ["house", "word"]) fun _ _ _ _ _ _ us hl => match us, hl with | [_, _], _ => rfl⟩, ⟨_, _, fun_mk (st := s_count) l_count c_count k_count, PySem.W.mg_of X G a_count, (fun_mk (st := s_count) l_count c_count k_count).binds (ps := ["house", "word"]) fun _ _ _ _ _ _ us hl => match us, hl with | [_, _], _ => rfl⟩, ⟨_, _, fun_mk (st := s_shortest_single) l_shortest_single c_shortest_single k_shortest_single, PySem.W.mg_of X G a_shortest_single, (fun_mk (st := s_shortest_single) l_shortest_single c_shortest_single k_shortest_single).binds (ps := ["house", "number", "index"]) fun _ _ _ _ _ _ us hl => match us, hl with | [_, _, _], _ => rfl⟩, ⟨_, _, fun_mk (st := s_text_with_letter) l_text_with_letter c_text_with_letter k_text_with_letter, PySem.W.mg_of X G a_text_with_letter, (fun_mk (st := s_text_with_letter) l_text_with_letter c_text_with_letter k_text_with_letter).binds (ps := ["house", "number", "index"]) fun _ _ _ _ _ _ us hl => match us, hl with | [_, _, _], _ => rfl⟩, ⟨_, _, fun_mk (st := s_stretches_over) l_stretches_over c_stretches_over k_stretches_over, PySem.W.mg_of X G a_stretches_over, (fun_mk (st := s_stretches_over) l_stretches_over c_stretches_over k_stretches_over).binds (ps := ["text", "index", "size"]) fun _ _ _ _ _ _ us hl => match us, hl with | [_, _, _], _ => rfl⟩, ⟨_, _, fun_mk (st := s_single_places) l_single_places c_single_places k_single_places, PySem.W.mg_of X G a_single_places, (fun_mk (st := s_single_places) l_single_places c_single_places k_single_places).binds (ps := ["house", "number", "index"]) fun _ _ _ _ _ _ us hl => match us, hl with | [_, _, _], _ => rfl⟩, ⟨_, _, fun_mk (st := s_check_single) l_check_single c_check_single k_check_single, PySem.W.mg_of X G a_check_single, (fun_mk (st := s_check_single) l_check_single c_check_single k_check_single).binds (ps := ["house", "number", "index", "found", "others"]) fun _ _ _ _ _ _ us hl => match us, hl with | [_, _, _, _, _], _ => rfl⟩, ⟨_, _, fun_mk (st := s__asked_stretches) l__asked_stretches c__asked_stretches k__asked_stretches, PySem.W.mg_of X G a__asked_stretches, (fun_mk (st := s__asked_stretches) l__asked_stretches c__asked_stretches k__asked_stretches).binds (ps := ["text", "index", "found"]) fun _ _ _ _ _ _ us hl => match us, hl with | [_, _, _], _ => rfl⟩, ⟨_, _, fun_mk (st := s__other_places) l__other_places c__other_places k__other_places, PySem.W.mg_of X G a__other_places, (fun_mk (st := s__other_places) l__other_places c__other_places k__other_places).binds (ps := ["house", "word", "own"]) fun _ _ _ _ _ _ us hl => match us, hl with | [_, _, _], _ => rfl⟩, ⟨_, _, fun_mk (st := s__is_single_over) l__is_single_over c__is_single_over k__is_single_over, PySem.W.mg_of X G a__is_single_over, (fun_mk (st := s__is_single_over) l__is_single_over c__is_single_over k__is_single_over).binds (ps := ["house", "text", "index", "found"]) fun _ _ _ _ _ _ us hl => match us, hl with | [_, _, _, _], _ => rfl⟩, ⟨_, _, fun_mk (st := s__law_draws) l__law_draws c__law_draws k__law_draws, PySem.W.mg_of X G a__law_draws, (fun_mk (st := s__law_draws) l__law_draws c__law_draws k__law_draws).binds (ps := ["script"]) fun _ _ _ _ _ _ us hl => match us, hl with | [_], _ => rfl⟩, ⟨_, _, fun_mk (st := s__law_mix) l__law_mix c__law_mix k__law_mix, PySem.W.mg_of X G a__law_mix, (fun_mk (st := s__law_mix) l__law_mix c__law_mix k__law_mix).binds (ps := ["draws", "k", "many"]) fun _ _ _ _ _ _ us hl => match us, hl with | [_, _, _], _ => rfl⟩, ⟨_, _, fun_mk (st := s__law_text) l__law_text c__law_text k__law_text, PySem.W.mg_of X G a__law_text, (fun_mk (st := s__law_text) l__law_text c__law_text k__law_text).binds (ps := ["draws", "k", "most"]) fun _ _ _ _ _ _ us hl => match us, hl with | [_, _, _], _ => rfl⟩, ⟨_, _, fun_mk (st := s__law_house) l__law_house c__law_house k__law_house, PySem.W.mg_of X G a__law_house, (fun_mk (st := s__law_house) l__law_house c__law_house k__law_house).binds (ps := ["draws", "k", "most"]) fun _ _ _ _ _ _ us hl => match us, hl with | [_, _, _], _ => rfl⟩, ⟨_, _, fun_mk (st := s__law_places) l__law_places c__law_places k__law_places, PySem.W.mg_of X G a__law_places, (fun_mk (st := s__law_places) l__law_places c__law_places k__law_places).binds (ps := ["house", "word"]) fun _ _ _ _ _ _ us hl => match us, hl with | [_, _], _ => rfl⟩, ⟨_, _, fun_mk (st := s__law_named) l__law_named c__law_named k__law_named, PySem.W.mg_of X G a__law_named, (fun_mk (st := s__law_named) l__law_named c__law_named k__law_named).binds (ps := ["text", "index", "found"]) fun _ _ _ _ _ _ us hl => match us, hl with | [_, _, _], _ => rfl⟩, ⟨_, _, fun_mk (st := s__law_others) l__law_others c__law_others k__law_others, PySem.W.mg_of X G a__law_others, (fun_mk (st := s__law_others) l__law_others c__law_others k__law_others).binds (ps := ["house", "number", "index", "found"]) fun _ _ _ _ _ _ us hl => match us, hl with | [_, _, _, _], _ => rfl⟩, ⟨_, _, fun_mk (st := s__law_due) l__law_due c__law_due k__law_due, PySem.W.mg_of X G a__law_due, (fun_mk (st := s__law_due) l__law_due c__law_due k__law_due).binds (ps := ["house", "number", "index", "found", "others"]) fun _ _ _ _ _ _ us hl => match us, hl with | [_, _, _, _, _], _ => rfl⟩, ⟨_, _, fun_mk (st := s__law_told) l__law_told c__law_told k__law_told, PySem.W.mg_of X G a__law_told, (fun_mk (st := s__law_told) l__law_told c__law_told k__law_told).binds (ps := ["which", "house", "number", "index"]) fun _ _ _ _ _ _ us hl => match us, hl with | [_, _, _, _], _ => rfl⟩, ⟨_, _, fun_mk (st := s__law_is_refused) l__law_is_refused c__law_is_refused k__law_is_refused, PySem.W.mg_of X G a__law_is_refused, (fun_mk (st := s__law_is_refused) l__law_is_refused c__law_is_refused k__law_is_refused).binds (ps := ["draws", "house"]) fun _ _ _ _ _ _ us hl => match us, hl with | [_, _], _ => rfl⟩, ⟨_, _, fun_mk (st := s_law) l_law c_law k_law, PySem.W.mg_of X G a_law, (fun_mk (st := s_law) l_law c_law k_law).binds (ps := ["script"]) fun _ _ _ _ _ _ us hl => match us, hl with | [_], _ => rfl⟩, ⟨_, fun_mk (st := s_init) l_I c_I k_I, (fun_mk (st := s_init) l_I c_I k_I).binds (ps := ["self", "at"]) (fun _ _ _ _ _ _ us hl => match us, hl with | [_, _], _ => rfl), t_I⟩, { g := PySem.W.mg_of X G xg_HouseError, o := ⟨⟨nm_HouseError, q_HouseError, N_HouseError, bs_HouseError, _, sn_HouseError, sub_HouseError, ab_HouseError, col_HouseError, dd_HouseError, m0_HouseError, m1_HouseError, m2_HouseError, m3_HouseError, m5_HouseError, xx_HouseError, by first | decide +kernel | rfl⟩, xs_HouseError, xb_HouseError, xt_HouseError, xk_HouseError⟩, i := xi_HouseError, no := xat_HouseError, f := ⟨xga_HouseError, xgg_HouseError, xb_HouseError, xh_HouseError⟩ }, { g := PySem.W.mg_of X G xg_NoText, o := ⟨⟨nm_NoText, q_NoText, N_NoText, bs_NoText, _, sn_NoText, sub_NoText, ab_NoText, col_NoText, dd_NoText, m0_NoText, m1_NoText, m2_NoText, m3_NoText, m5_NoText, xx_NoText, by first | decide +kernel | rfl⟩, xs_NoText, xb_NoText, xt_NoText, xk_NoText⟩, i := xi_NoText, no := xat_NoText, f := ⟨xga_NoText, xgg_NoText, xb_NoText, xh_NoText⟩ }, { g := PySem.W.mg_of X G xg_OutOfRange, o := ⟨⟨nm_OutOfRange, q_OutOfRange, N_OutOfRange, bs_OutOfRange, _, sn_OutOfRange, sub_OutOfRange, ab_OutOfRange, col_OutOfRange, dd_OutOfRange, m0_OutOfRange, m1_OutOfRange, m2_OutOfRange, m3_OutOfRange, m5_OutOfRange, xx_OutOfRange, by first | decide +kernel | rfl⟩, xs_OutOfRange, xb_OutOfRange, xt_OutOfRange, xk_OutOfRange⟩, i := xi_OutOfRange, no := xat_OutOfRange, f := ⟨xga_OutOfRange, xgg_OutOfRange, xb_OutOfRange, xh_OutOfRange⟩ }, exm_of xb_NoText xis_NoText xt_NoText e_NoText_NoText, exm_of xb_OutOfRange xis_OutOfRange xt_OutOfRange e_NoText_OutOfRange, exm_of xb_NoText xis_NoText xt_NoText e_OutOfRange_NoText, exm_of xb_OutOfRange xis_OutOfRange xt_OutOfRange e_OutOfRange_OutOfRange⟩
  exact ⟨PySem.W.fnOf "law" "law" (defArgs s_law) (defBody s_law) (defScope s_law) .none kV_law dc_law pm_law an_law cd_law ct_law, fun s v => .of_eq rfl, fun base _ _ => law_all T (fun_mk (st := s_law) l_law c_law k_law)⟩
end SH
open PySem PySem.W PyProof.Rows
set_option maxHeartbeats 0 in
theorem PySem.Challenge.cw_suffixhouse_k22_papers_of_single_stretch_holds : PySem.Challenge.rw_suffixhouse_k22_papers_of_single_stretch.Holds := by
  w_on; o_law; k_head; (case hw => w_witness2)
  k_fill
  refine SH.walk_ofG (l := PySem.Challenge.rw_suffixhouse_k22_papers_of_single_stretch) (n := 63) (k := 10) (x := "script") (sp := fun w => SH.spLaw _) rfl (by decide) rfl ⟨rfl, by decide, by decide⟩ (fun w h Y => PySem.W.kIn_of Y) ?F (fun _ _ a ns hl _ hS => ⟨a, ns, rfl, hS, hl, fun _ => rfl⟩)
  case F =>
    intro w mg fa h KX G hmg
    refine' SH.all_mk KX G hmg ?z_abs ?z_bool ?z_dict ?z_int ?z_isinstance ?z_len ?z_list ?z_max ?z_min ?z_range ?z_repr ?z_sorted ?a_text_of ?l_text_of ?c_text_of ?k_text_of ?a_places ?l_places ?c_places ?k_places ?a_count ?l_count ?c_count ?k_count ?a_shortest_single ?l_shortest_single ?c_shortest_single ?k_shortest_single ?a_text_with_letter ?l_text_with_letter ?c_text_with_letter ?k_text_with_letter ?a_stretches_over ?l_stretches_over ?c_stretches_over ?k_stretches_over ?a_single_places ?l_single_places ?c_single_places ?k_single_places ?a_check_single ?l_check_single ?c_check_single ?k_check_single ?a__asked_stretches ?l__asked_stretches ?c__asked_stretches ?k__asked_stretches ?a__other_places ?l__other_places ?c__other_places ?k__other_places ?a__is_single_over ?l__is_single_over ?c__is_single_over ?k__is_single_over ?a__law_draws ?l__law_draws ?c__law_draws ?k__law_draws ?a__law_mix ?l__law_mix ?c__law_mix ?k__law_mix ?a__law_text ?l__law_text ?c__law_text ?k__law_text ?a__law_house ?l__law_house ?c__law_house ?k__law_house ?a__law_places ?l__law_places ?c__law_places ?k__law_places ?a__law_named ?l__law_named ?c__law_named ?k__law_named ?a__law_others ?l__law_others ?c__law_others ?k__law_others ?a__law_due ?l__law_due ?c__law_due ?k__law_due ?a__law_told ?l__law_told ?c__law_told ?k__law_told ?a__law_is_refused ?l__law_is_refused ?c__law_is_refused ?k__law_is_refused ?a_law ?l_law ?c_law ?k_law ?xg_HouseError ?xx_HouseError ?xs_HouseError ?xga_HouseError ?xgg_HouseError ?xat_HouseError ?xi_HouseError ?xb_HouseError ?xt_HouseError ?xh_HouseError ?xk_HouseError ?xis_HouseError ?xg_NoText ?xx_NoText ?xs_NoText ?xga_NoText ?xgg_NoText ?xat_NoText ?xi_NoText ?xb_NoText ?xt_NoText ?xh_NoText ?xk_NoText ?xis_NoText ?xg_OutOfRange ?xx_OutOfRange ?xs_OutOfRange ?xga_OutOfRange ?xgg_OutOfRange ?xat_OutOfRange ?xi_OutOfRange ?xb_OutOfRange ?xt_OutOfRange ?xh_OutOfRange ?xk_OutOfRange ?xis_OutOfRange ?l_I ?c_I ?k_I ?t_I ?e_NoText_NoText ?e_NoText_OutOfRange ?e_OutOfRange_NoText ?e_OutOfRange_OutOfRange
    (case z_abs => first | k_is | rfl)
    (case z_bool => first | k_is | rfl)
    (case z_dict => first | k_is | rfl)
    (case z_int => first | k_is | rfl)
    (case z_isinstance => first | k_is | rfl)
    (case z_len => first | k_is | rfl)
    (case z_list => first | k_is | rfl)
    (case z_max => first | k_is | rfl)
    (case z_min => first | k_is | rfl)
    (case z_range => first | k_is | rfl)
    (case z_repr => first | k_is | rfl)
    (case z_sorted => first | k_is | rfl)
    (case a_text_of => first | k_is | rfl)
    (case l_text_of => first | k_is | rfl)
    (case c_text_of => first | k_is | rfl)
    (case k_text_of => first | k_is | rfl)
    (case a_places => first | k_is | rfl)
    (case l_places => first | k_is | rfl)
    (case c_places => first | k_is | rfl)
    (case k_places => first | k_is | rfl)
    (case a_count => first | k_is | rfl)
    (case l_count => first | k_is | rfl)
    (case c_count => first | k_is | rfl)
    (case k_count => first | k_is | rfl)
    (case a_shortest_single => first | k_is | rfl)
    (case l_shortest_single => first | k_is | rfl)
    (case c_shortest_single => first | k_is | rfl)
    (case k_shortest_single => first | k_is | rfl)
    (case a_text_with_letter => first | k_is | rfl)
    (case l_text_with_letter => first | k_is | rfl)
    (case c_text_with_letter => first | k_is | rfl)
    (case k_text_with_letter => first | k_is | rfl)
    (case a_stretches_over => first | k_is | rfl)
    (case l_stretches_over => first | k_is | rfl)
    (case c_stretches_over => first | k_is | rfl)
    (case k_stretches_over => first | k_is | rfl)
    (case a_single_places => first | k_is | rfl)
    (case l_single_places => first | k_is | rfl)
    (case c_single_places => first | k_is | rfl)
    (case k_single_places => first | k_is | rfl)
    (case a_check_single => first | k_is | rfl)
    (case l_check_single => first | k_is | rfl)
    (case c_check_single => first | k_is | rfl)
    (case k_check_single => first | k_is | rfl)
    (case a__asked_stretches => first | k_is | rfl)
    (case l__asked_stretches => first | k_is | rfl)
    (case c__asked_stretches => first | k_is | rfl)
    (case k__asked_stretches => first | k_is | rfl)
    (case a__other_places => first | k_is | rfl)
    (case l__other_places => first | k_is | rfl)
    (case c__other_places => first | k_is | rfl)
    (case k__other_places => first | k_is | rfl)
    (case a__is_single_over => first | k_is | rfl)
    (case l__is_single_over => first | k_is | rfl)
    (case c__is_single_over => first | k_is | rfl)
    (case k__is_single_over => first | k_is | rfl)
    (case a__law_draws => first | k_is | rfl)
    (case l__law_draws => first | k_is | rfl)
    (case c__law_draws => first | k_is | rfl)
    (case k__law_draws => first | k_is | rfl)
    (case a__law_mix => first | k_is | rfl)
    (case l__law_mix => first | k_is | rfl)
    (case c__law_mix => first | k_is | rfl)
    (case k__law_mix => first | k_is | rfl)
    (case a__law_text => first | k_is | rfl)
    (case l__law_text => first | k_is | rfl)
    (case c__law_text => first | k_is | rfl)
    (case k__law_text => first | k_is | rfl)
    (case a__law_house => first | k_is | rfl)
    (case l__law_house => first | k_is | rfl)
    (case c__law_house => first | k_is | rfl)
    (case k__law_house => first | k_is | rfl)
    (case a__law_places => first | k_is | rfl)
    (case l__law_places => first | k_is | rfl)
    (case c__law_places => first | k_is | rfl)
    (case k__law_places => first | k_is | rfl)
    (case a__law_named => first | k_is | rfl)
    (case l__law_named => first | k_is | rfl)
    (case c__law_named => first | k_is | rfl)
    (case k__law_named => first | k_is | rfl)
    (case a__law_others => first | k_is | rfl)
    (case l__law_others => first | k_is | rfl)
    (case c__law_others => first | k_is | rfl)
    (case k__law_others => first | k_is | rfl)
    (case a__law_due => first | k_is | rfl)
    (case l__law_due => first | k_is | rfl)
    (case c__law_due => first | k_is | rfl)
    (case k__law_due => first | k_is | rfl)
    (case a__law_told => first | k_is | rfl)
    (case l__law_told => first | k_is | rfl)
    (case c__law_told => first | k_is | rfl)
    (case k__law_told => first | k_is | rfl)
    (case a__law_is_refused => first | k_is | rfl)
    (case l__law_is_refused => first | k_is | rfl)
    (case c__law_is_refused => first | k_is | rfl)
    (case k__law_is_refused => first | k_is | rfl)
    (case a_law => first | k_is | rfl)
    (case l_law => first | k_is | rfl)
    (case c_law => first | k_is | rfl)
    (case k_law => first | k_is | rfl)
    (case xg_HouseError => first | k_is | rfl)
    (case xx_HouseError => first | k_is | rfl)
    (case xs_HouseError => first | k_is | rfl)
    (case xga_HouseError => first | k_is | rfl)
    (case xgg_HouseError => first | k_is | rfl)
    (case xat_HouseError => first | k_is | rfl)
    (case xi_HouseError => first | k_is | rfl)
    (case xb_HouseError => first | k_is | rfl)
    (case xt_HouseError => first | k_is | rfl)
    (case xh_HouseError => first | k_is | rfl)
    (case xk_HouseError => first | k_is | rfl)
    (case xis_HouseError => first | k_is | rfl)
    (case xg_NoText => first | k_is | rfl)
    (case xx_NoText => first | k_is | rfl)
    (case xs_NoText => first | k_is | rfl)
    (case xga_NoText => first | k_is | rfl)
    (case xgg_NoText => first | k_is | rfl)
    (case xat_NoText => first | k_is | rfl)
    (case xi_NoText => first | k_is | rfl)
    (case xb_NoText => first | k_is | rfl)
    (case xt_NoText => first | k_is | rfl)
    (case xh_NoText => first | k_is | rfl)
    (case xk_NoText => first | k_is | rfl)
    (case xis_NoText => first | k_is | rfl)
    (case xg_OutOfRange => first | k_is | rfl)
    (case xx_OutOfRange => first | k_is | rfl)
    (case xs_OutOfRange => first | k_is | rfl)
    (case xga_OutOfRange => first | k_is | rfl)
    (case xgg_OutOfRange => first | k_is | rfl)
    (case xat_OutOfRange => first | k_is | rfl)
    (case xi_OutOfRange => first | k_is | rfl)
    (case xb_OutOfRange => first | k_is | rfl)
    (case xt_OutOfRange => first | k_is | rfl)
    (case xh_OutOfRange => first | k_is | rfl)
    (case xk_OutOfRange => first | k_is | rfl)
    (case xis_OutOfRange => first | k_is | rfl)
    (case l_I => first | k_is | rfl)
    (case c_I => first | k_is | rfl)
    (case k_I => first | k_is | rfl)
    (case t_I => first | k_is | rfl)
    (case e_NoText_NoText => first | k_is | rfl)
    (case e_NoText_OutOfRange => first | k_is | rfl)
    (case e_OutOfRange_NoText => first | k_is | rfl)
    (case e_OutOfRange_OutOfRange => first | k_is | rfl)
