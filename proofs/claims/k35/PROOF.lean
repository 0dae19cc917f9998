import PyProof.Rows.All
import Wide.All
import OpenK.AllK
import Wide.FinOn
import PyProof.EqAt
import PyProof.EqKinds
import PyProof.TupleCall
import HandS.ForMost
import HandS.Wide
import HandS.Codes
import HandS.TupLe
import HandS.Star
import HandS.StrMore
import HandS.FStr
import HandS.Evl
import HandS.Exc
import HandS.TryMany
import HandS.ExcInit
import HandS.ExcField
import HandS.WideBits
import HandS.WordsExc
import HandS.Walk
import HandS.SortRule
import KE.SortData
import HandS.Set
import HandS.SetBool
import HandS.SetKeys
import HandS.SortKw
import KE.SortKeyHeap
import HandS.Comp
import HandS.Dict
import PyProof.StrWalks
import HandS.Strs
import PyProof.StrLawsIn
import KE.GoesEnum
import PyProof.StrLaws
import HandS.DeepEq
import KE.DataCmp
import HandS.Style
import HandS.Conv
import HandS.Flt
import HandS.Lambda
import HandS.JoinGen
import KE.DataMinKey
import PyProof.WalkInts
import HandS.IsInst
import HandS.More
import HandS.EndTab
import PySem.Challenge.RW_suffixhouse_k35_near_places
set_option Elab.async false
set_option linter.all false
set_option maxRecDepth 100000
set_option maxHeartbeats 4000000
namespace SH
open PySem PySem.Spec PyProof.Rows L2
section
variable {P : Program} {w : World} {K : PySem.W.Frag} {mg : Str → Option Value} {base : Heap}
/-- a def of the top as it stands: its text, its name's value, how it binds -/
structure Dd (K : PySem.W.Frag) (mg : Str → Option Value) (x : Str) (st : Stmt) (ps : List Str) : Prop where
  ex : ∃ (f : Addr) (fd : FuncData), Fun K x x st f fd ∧ mg x = some (.ref f) ∧ Binds K fd ps []
/-- a def that lets nothing out, callable by its name -/
abbrev Cl (P : Program) (w : World) (K : PySem.W.Frag) (mg : Str → Option Value) (base : Heap) (k : Nat) (x : Str) (sp : Sp) : Prop := C8.Cal P w K mg base k x sp []
/-- a def that may raise -/
structure ClX (P : Program) (w : World) (K : PySem.W.Frag) (mg : Str → Option Value) (base : Heap) (k : Nat) (x : Str) (sp : Sp) : Prop where
  ex : ∃ (f : Addr) (fd : FuncData) (ps : List Str), FnOk P w K mg base (L2.CX P w) k f fd ps sp ∧ mg x = some (.ref f) ∧ PySem.W.keepIn K (.ref f) = true ∧ Binds K fd ps []
theorem cl_of {x : Str} {st : Stmt} {ps N : List Str} {k : Nat} {sp : Sp} (D : Dd K mg x st ps) (S : FnScope N ps (defScope st)) (len : ∀ vs H Q E, sp vs H Q E → vs.length = ps.length)
    (hbody : ∀ (f : Addr) (cdv : Value) (A : Around) (outer : List Env) (s : Shared) (H : Hp) (vs : List V) (Q : VK) (E : XK), Room k (A.deeper (envOfC x (defScope st) s.heap.objs.size f cdv)) → sp vs H Q E →
      ∃ t, PSs (cxOf CX0 P w K mg base N x (defScope st) f cdv A outer s H E).nox (defBody st) t ∧ t { nx := fun _ H' => Q .non H', rt := Q } (start N vs) H) : Cl P w K mg base (k + 1) x sp := by
  obtain ⟨f, fd, F, hm, b⟩ := D.ex
  exact ⟨f, fd, ps, [], F.ok S len (fun cdv A outer s H vs Q E hr h => hbody f cdv A outer s H vs Q E hr h), hm, F.kp, b, .nil⟩
theorem clx_of {x : Str} {st : Stmt} {ps N : List Str} {k : Nat} {sp : Sp} (D : Dd K mg x st ps) (S : FnScope N ps (defScope st)) (len : ∀ vs H Q E, sp vs H Q E → vs.length = ps.length)
    (hbody : ∀ (f : Addr) (cdv : Value) (A : Around) (outer : List Env) (s : Shared) (H : Hp) (vs : List V) (Q : VK) (E : XK), Room k (A.deeper (envOfC x (defScope st) s.heap.objs.size f cdv)) → sp vs H Q E →
      ∃ t, PSs (cxOf (L2.CX P w) P w K mg base N x (defScope st) f cdv A outer s H E) (defBody st) t ∧ t { nx := fun _ H' => Q .non H', rt := Q } (start N vs) H) : ClX P w K mg base (k + 1) x sp := by
  obtain ⟨f, fd, F, hm, b⟩ := D.ex
  exact ⟨f, fd, ps, F.okX S len (fun cdv A outer s H vs Q E hr h => hbody f cdv A outer s H vs Q E hr h), hm, F.kp, b⟩
end
section
variable {X : Cx} {k j : Nat} {x : Str} {sp : Sp} {p pos : Pos} {e : Expr} {es : List Expr} {t : TA}
/-- f(e, ..) of a def that may raise, in a try's body or where it passes on -/
theorem pe_cx (c : ClX X.prog X.w X.K X.mg X.base k x sp) {E : L2.St → XK} (hr : Room j X.A) (hk : k ≤ j) (hx : ∀ σ, PassesAt (L2.CX X.prog X.w) X σ (E σ)) (hg : Gl X x) (ha : PA X (e :: es) t)
    (hdb : (x == ("__debug__" : Str)) = false := by decide) (he : starEach (e :: es) X.env = (false, eval e X.env) :: starEach es X.env := by rfl) (hpl : (backTo pos (starEach es X.env)).any (·.1) = false := by rfl) :
    PE X (.Call (.Name x p) (e :: es) [] pos) (tCallS sp E t) := by
  obtain ⟨f, fd, ps, F, hm, kp, b⟩ := c.ex
  exact pe_callS F (hr.mono hk) hg hm kp b hx ha hdb he hpl
end
theorem ixt {X : Cx} {K : PySem.W.Frag} (h : X.K = K := by rfl) : IxR X (rIxT K) := h ▸ ix_tup
theorem ixl {X : Cx} {K : PySem.W.Frag} (h : X.K = K := by rfl) : IxR X (rIxL K) := h ▸ ix_list
/-- a module's number -/
theorem pe_k {X : Cx} {x : Str} {pos : Pos} {v : Int} (h : ∃ t, X.mg x = some (.int v t)) (hg : Gl X x := by rfl) (hdb : (x == ("__debug__" : Str)) = false := by decide) : PE X (.Name x pos) (tC (.int v)) := by
  obtain ⟨t, h⟩ := h
  exact pe_glob hg h ⟨t, rfl⟩ hdb
/-! ### numbers drawn: a list of small numbers -/
def Dr (ns : List Int) : Prop := ns.length ≤ 4000 ∧ ∀ n ∈ ns, 0 ≤ n ∧ n < 65536
/-- r(draws, k, many): a number from 0 below many -/
def spDraw (K : PySem.W.Frag) : Sp := fun vs H Q _ => ∃ (a : Addr) (ns : List Int) (k many : Int), vs = [.ref a, .int k, .int many] ∧ SqL K H a (ns.map V.int) ∧ Dr ns ∧ 0 ≤ k ∧ k < 100000 ∧ 0 < many ∧ ∀ r : Int, 0 ≤ r → r < many → Q (.int r) H
theorem at_ints {ns : List Int} {i : Int} (h0 : 0 ≤ i) (h1 : i < ns.length) : ∃ z, atI (ns.map V.int) i = some (.int z) ∧ z ∈ ns := by
  obtain ⟨j, rfl⟩ : ∃ j : Nat, i = j := ⟨i.toNat, by omega⟩
  have hj : j < ns.length := by omega
  refine ⟨ns[j], ?_, List.getElem_mem hj⟩
  refine atI_nat ?_
  rw [List.getElem?_map, List.getElem?_eq_getElem hj]
  rfl
/-! ### heaps -/
theorem same_new {H : Hp} {p : Addr} {o : HO} (h : H p = none) : Same H (upd H p o) := fun b x e => by
  rw [upd_ne (ne_of_none e h)]
  exact e
theorem same_mut {H H' : Hp} {p : Addr} {o : HO} (e : Same H H') (h : H p = none) : Same H (upd H' p o) := fun b x hb => by
  rw [upd_ne (ne_of_none hb h)]
  exact e b x hb
theorem same_tup {K : PySem.W.Frag} {H H' : Hp} {a : Addr} {xs : List V} (e : Same H H') (h : SqT K H a xs) : SqT K H' a xs := by
  rcases h with (h | ⟨o, h⟩) | h
  · exact .inl (.inl (e _ _ h))
  · exact .inl (.inr ⟨o, e _ _ h⟩)
  · exact .inr h
/-! ### texts of letters -/
def okc (c : Nat) : Bool := decide (32 ≤ c) && (decide (c ≤ 126) && decide (c ≠ 37))
def IsLet (z : Str) : Prop := z.cps.toList.all okc = true
instance (z : Str) : Decidable (IsLet z) := inferInstanceAs (Decidable (_ = true))
theorem str_at {z : Str} {i : Int} (h0 : 0 ≤ i) (h1 : i < (z.cps.toList.length : Int)) : ∃ c, atI z.cps.toList i = some c ∧ c ∈ z.cps.toList := by
  obtain ⟨j, rfl⟩ : ∃ j : Nat, i = j := ⟨i.toNat, by omega⟩
  have hj : j < z.cps.toList.length := by omega
  exact ⟨z.cps.toList[j], atI_nat (List.getElem?_eq_getElem hj), List.getElem_mem hj⟩
theorem let_at {z : Str} {c : Nat} (h : IsLet z) (hc : c ∈ z.cps.toList) : IsLet ⟨#[c]⟩ := by
  have := List.all_eq_true.mp h c hc
  show ([c].all okc) = true
  simp [this]
theorem let_app {a b : Str} (ha : IsLet a) (hb : IsLet b) : IsLet (a ++ b) := by
  have e : (a ++ b).cps.toList = a.cps.toList ++ b.cps.toList := TL.tl_append a b
  show (a ++ b).cps.toList.all okc = true
  rw [e, List.all_append, Bool.and_eq_true]
  exact ⟨ha, hb⟩
theorem len_app (a b : Str) : (a ++ b).length = a.length + b.length := by
  have e : (a ++ b).cps.toList = a.cps.toList ++ b.cps.toList := TL.tl_append a b
  have e2 := congrArg List.length e
  rw [List.length_append] at e2
  simpa [Str.length] using e2
theorem at_map {α : Type} (f : α → V) {xs : List α} {i : Int} (h0 : 0 ≤ i) (h1 : i < xs.length) : ∃ x, atI (xs.map f) i = some (f x) ∧ x ∈ xs := by
  obtain ⟨j, rfl⟩ : ∃ j : Nat, i = j := ⟨i.toNat, by omega⟩
  have hj : j < xs.length := by omega
  refine ⟨xs[j], ?_, List.getElem_mem hj⟩
  refine atI_nat ?_
  rw [List.getElem?_map, List.getElem?_eq_getElem hj]
  rfl
theorem ixs_let {z : Str} {j : Int} {H : Hp} {Q : VK} (hz : IsLet z) (hl : z.length ≤ sizeLine) (h0 : 0 ≤ j) (h1 : j < (z.cps.toList.length : Int)) (h : ∀ c, okc c = true → Q (.str ⟨#[c]⟩) H) : rIxS (.str z) (.int j) H Q := by
  obtain ⟨c, hc, hm⟩ := str_at h0 h1
  exact ⟨z, j, c, rfl, rfl, hl, hc, h c (List.all_eq_true.mp hz c hm)⟩
theorem let_one {c : Nat} (h : okc c = true) : IsLet ⟨#[c]⟩ := by
  show ([c].all okc) = true
  simp [h]
/-! ### houses: pairs of a number and a text, each at its address -/
abbrev PL := List (Addr × Int × Str)
def refs (L : PL) : List V := L.map fun q => V.ref q.1
def PairsAt (K : PySem.W.Frag) (H : Hp) (L : PL) : Prop := ∀ q ∈ L, SqT K H q.1 [.int q.2.1, .str q.2.2]
def HsAt (K : PySem.W.Frag) (H : Hp) (a : Addr) (L : PL) : Prop := SqL K H a (refs L) ∧ PairsAt K H L
theorem PairsAt.same {K : PySem.W.Frag} {H H' : Hp} {L : PL} (e : Same H H') (h : PairsAt K H L) : PairsAt K H' L := fun q hq => same_tup e (h q hq)
theorem HsAt.same {K : PySem.W.Frag} {H H' : Hp} {a : Addr} {L : PL} (e : Same H H') (h : HsAt K H a L) : HsAt K H' a L := ⟨e.seq h.1, h.2.same e⟩
/-- numbers ascending from 0 to 99, texts of at most m letters -/
structure IsHs (m : Nat) (h : List (Int × Str)) : Prop where
  asc : (h.map (·.1)).Pairwise (· < ·)
  num : ∀ q ∈ h, 0 ≤ q.1 ∧ q.1 ≤ 99
  txt : ∀ q ∈ h, IsLet q.2 ∧ q.2.length ≤ m
/-- == of data, the frame said -/
theorem op_eqDK {X : Cx} {K : PySem.W.Frag} (hu : X.A.units + 64 < cLine) (h : X.K = K := by rfl) : OpR X (compareOp .Eq) (rEqD K) := h ▸ op_eqD hu
theorem op_neDK {X : Cx} {K : PySem.W.Frag} (hu : X.A.units + 64 < cLine) (h : X.K = K := by rfl) : OpR X (compareOp .NotEq) (rNeD K) := h ▸ op_neD hu
end SH
set_option Elab.async false
set_option linter.all false
set_option maxRecDepth 100000
set_option maxHeartbeats 4000000
/-! except clauses, any number, with and without a name -/
namespace SH
open PySem PySem.Spec PyProof.Rows L2
abbrev Suite := Addr → Value → Option Addr → TS
/-- behind a suite whose name is forgotten -/
def gone (i : Nat) (D : Ends) : Ends :=
  ⟨fun τ G => D.nx (τ.set i none) G, D.rt, fun τ G => D.bk (τ.set i none) G, fun τ G => D.ct (τ.set i none) G⟩
/-- how a suite is entered: with its name in slot i, or without one -/
def enter (o : Option Nat) (ts : Suite) (a : Addr) (c : Value) (d : Option Addr) (D : Ends) (τ : L2.St) (G : Hp) : Prop :=
  match o with
  | none => ts a c d D τ G
  | some i => ts a c d (gone i D) (τ.set i (some (.ref a))) G
/-- the clauses' wishes: the first that matches -/
def wHds (K : PySem.W.Frag) (Wo : WX) (D : Ends) : List (Value × Option Nat × Suite) → WX
  | [] => Wo
  | q :: r => fun c d τ G => ∃ b, PySem.W.exmOne K c q.1 = some b ∧ (b = true → ∀ a, G a = none → enter q.2.1 q.2.2 a c d D τ G) ∧ (b = false → wHds K Wo D r c d τ G)
/-- a suite's text does what ts says -/
def SuiteOk (X : Cx) (sts : List Stmt) (ts : Suite) : Prop :=
  ∀ (a : Addr) (o : Obj) (c : Value) (d : Option Addr) (l : List (Addr × Obj)), Zc c d o → (∃ f, o.data = .fields f) → PSs (X.suite a ((a, o) :: l)) sts (ts a c d)
inductive HdsN (X : Cx) : List ExceptHandler → List (Value × Option Nat × Suite) → Prop
  | nil : HdsN X [] []
  | cons {x : Str} {c : Value} {ts : Suite} {u : Stmt} {us : List Stmt} {p p' : Pos} {hs : List ExceptHandler} {l : List (Value × Option Nat × Suite)} :
      Names X x c → SuiteOk X (u :: us) ts → HdsN X hs l → HdsN X (.ExceptHandler (some (.Name x p)) none (u :: us) p' :: hs) ((c, none, ts) :: l)
  | named {x n : Str} {i : Nat} {c : Value} {ts : Suite} {u : Stmt} {us : List Stmt} {p p' : Pos} {hs : List ExceptHandler} {l : List (Value × Option Nat × Suite)} :
      Names X x c → X.N.Nodup → X.N[i]? = some n → X.env.kindOf n = some .local → SuiteOk X (u :: us) ts → HdsN X hs l → HdsN X (.ExceptHandler (some (.Name x p)) (some n) (u :: us) p' :: hs) ((c, some i, ts) :: l)
/-- an exception that has come down to this frame: at a, of the class c, with its dict d, over the ground B -/
structure Down (X : Cx) (pins : List (Addr × Obj)) (B : Heap) (a : Addr) (c : Value) (d : Option Addr) (τ : L2.St) (G : Hp) (s : Shared) : Prop where
  st : X.stack = X.env :: X.outer
  fr : X.env.frame = some X.env.locals
  fl : HandSPX.FlyingZ B (X.env :: X.outer) a (Zc c d) s.heap
  on : ∀ h, B.StaysIn h → s.heap.UpToSlots h → Inv X pins τ G { s with heap := h }
  ok : Inv X pins τ G s
  no : G a = none
  out : ∀ (h : Heap) (W : WX), HandSPX.HeldZ B (X.env :: X.outer) a (Zc c d) X.env.locals h → s.heap.UpToSlots h → W c d τ G → XE X W (.ref a) { s with heap := h }
section
variable {X : Cx} {pins : List (Addr × Obj)} {B : Heap} {a : Addr} {c : Value} {d : Option Addr} {τ : L2.St} {G : Hp} {s : Shared}
theorem Down.inner (Y : Down X pins B a c d τ G s) : ∃ o, s.heap.get? a = some o ∧ Zc c d o ∧ (∃ f, o.data = .fields f) ∧ Inv (X.suite a ((a, o) :: (X.pn ++ pins))) [] τ G s := by
  obtain ⟨o, f, ga, za, da⟩ := Y.fl.there
  have away : a ∉ frs (X.env :: X.outer) := by
    intro m
    obtain ⟨-, o', g', nf⟩ := Y.fl.2.2.1.mem m
    cases ga.symm.trans g'
    exact nf _ da
  refine ⟨o, ga, za, ⟨f, da⟩, Y.ok.suite ga da Y.no ?_ ?_⟩
  · intro z
    refine away (List.mem_filterMap.mpr ⟨X.env, List.mem_cons_self, ?_⟩)
    rw [Y.fr, z]
  · intro m
    obtain ⟨e, me, q⟩ := List.mem_filterMap.mp m
    exact away (List.mem_filterMap.mpr ⟨e, List.mem_cons_of_mem _ me, q⟩)
/-- the clause's name is asked, and whether the exception is of it -/
theorem Down.asked (Y : Down X pins B a c d τ G s) {x : Str} {p : Pos} {cl : Value} {b : Bool} (nm : Names X x cl) (hb : PySem.W.exmOne X.K c cl = some b) {Q : Bool → Shared → Prop} {E : Value → Shared → Prop} (q : Q b s) :
    wpAny (model X.prog X.w) (X.A.mark (some (.ref a))) (eval (.Name x p) X.env) (fun u s1 => wpAny (model X.prog X.w) (X.A.mark (some (.ref a))) (excMatches (.ref a) u) Q E s1) E s := by
  obtain ⟨o, ga, za, -, S⟩ := Y.inner
  have ty : PySem.W.Looks (model X.prog X.w) s.heap (typeOf (.ref a)) c := fun _ _ _ _ k z => wpAny_typeOf_ref (k _ _ ga) (by rw [za.1]; exact z)
  have mt := (PySem.W.exm_one (M := model X.prog X.w) Y.ok.kIn ty hb).here (A := X.A.mark (some (.ref a))) (Q := Q) (E := E) q
  obtain ⟨g, nd, hm | ⟨hm, hv, nn⟩⟩ := nm
  · exact ld_glob (X := X.suite a ((a, o) :: (X.pn ++ pins))) S g hm mt nd
  · exact ld_blt (X := X.suite a ((a, o) :: (X.pn ++ pins))) S g hm hv mt nn nd
/-- once more at the suite's beginning -/
theorem Down.again (Y : Down X pins B a c d τ G s) {h : Heap} (f : HandSPX.FlyingZ B (X.env :: X.outer) a (Zc c d) h) (u : s.heap.UpToSlots h) : Down X pins B a c d τ G { s with heap := h } :=
  ⟨Y.st, Y.fr, f, fun g k v => Y.on g k (u.trans v), Y.on h f.1 u, Y.no, fun g W k v w => Y.out g W k (u.trans v) w⟩
theorem Down.handle (Y : Down X pins B a c d τ G s) {D : Ends} {Wo : WX} (tk : Takes X Wo) {hs : List ExceptHandler} {l : List (Value × Option Nat × Suite)} (hk : HdsN X hs l) :
    wHds X.K Wo D l c d τ G → wpAny (model X.prog X.w) X.A (handleBy (.ref a) X.env hs) (SP X pins D) X.xe s := by
  induction hk with
  | nil =>
    intro wish
    refine wpAny_handleBy_nil ?_
    obtain ⟨-, -, -, o, f, T, -, -, go, -, dat, f1, -⟩ := id Y.fl
    unfold PySem.passOn
    refine wpAny_bind (wpAny_field go dat f1 ?_)
    rw [if_neg (by simp : ¬ ((Value.ref T == Value.none) = true))]
    have up : wpAny (model X.prog X.w) X.A (setFlight (.ref a) X.env.frame) (fun _ s4 => wpAny (model X.prog X.w) X.A (throw (.ref a) : Sem Flow) (SP X pins D) X.xe s4) X.xe s := by
      rw [Y.fr]
      exact HandSPX.setFlight_upZ Y.fl fun h held u => wpAny_throw (tk _ _ (Y.out h _ held u wish))
    first
      | exact wpAny_bind (wpAny_pure (wpAny_bind up))
      | exact wpAny_bind up
  | @cons x cl ts u us p p' hs l nm so r ih =>
    rintro ⟨b, hb, yes, no⟩
    refine wpAny_handleBy_cons (codeAny_handlers_test (Y.asked nm hb ?_)) (fun z => nomatch z)
    match b, yes, no with
    | false, _, no => exact ih (no rfl)
    | true, yes, _ =>
      refine codeAny_handlers_suite (HandSPX.lands_againZ Y.fl fun h f v => ?_)
      obtain ⟨o, -, zo, fo, S⟩ := (Y.again f v).inner
      refine wpAny_mono ((so a o c d (X.pn ++ pins) zo fo).run [] _ _ G _ S (yes rfl a Y.no)) ?_ (fun _ _ z => z.elim)
      intro g s6 hsp
      match g, hsp with
      | .next, ⟨τ6, G6, S6, z⟩ => exact ⟨τ6, G6, S6.unsuite Y.ok.ok, z⟩
      | .brk, ⟨τ6, G6, S6, z⟩ => exact ⟨τ6, G6, S6.unsuite Y.ok.ok, z⟩
      | .cont, ⟨τ6, G6, S6, z⟩ => exact ⟨τ6, G6, S6.unsuite Y.ok.ok, z⟩
      | .ret u, ⟨v6, τ6, G6, S6, r6, z⟩ => exact ⟨v6, τ6, G6, S6.unsuite Y.ok.ok, r6, z⟩
  | @named x n i cl ts u us p p' hs l nm hN hi ho so r ih =>
    rintro ⟨b, hb, yes, no⟩
    refine wpAny_handleBy_cons (codeAny_handlers_test (Y.asked nm hb ?_)) (fun z => nomatch z)
    match b, yes, no with
    | false, _, no => exact ih (no rfl)
    | true, yes, _ =>
      refine codeAny_handlers_suite_as (HandSPX.lands_againZ Y.fl fun h f v => ?_)
      obtain ⟨o, -, zo, fo, S⟩ := (Y.again f v).inner
      refine store_ok (X := X.suite a ((a, o) :: (X.pn ++ pins))) (v := .ref a) S hN hi (.inl ho) rfl (fun s5 S5 => ?_) (.inr ho)
      refine wpAny_mono ((so a o c d (X.pn ++ pins) zo fo).run [] s5 _ G _ S5 (yes rfl a Y.no)) ?_ (fun _ _ z => z.elim)
      intro g s6 hsp
      match g, hsp with
      | .next, ⟨τ6, G6, S6, z⟩ => exact gone_ok (S6.unsuite Y.ok.ok) hN hi ho fun s7 J => ⟨τ6.set i none, G6, J, z⟩
      | .brk, ⟨τ6, G6, S6, z⟩ => exact gone_ok (S6.unsuite Y.ok.ok) hN hi ho fun s7 J => ⟨τ6.set i none, G6, J, z⟩
      | .cont, ⟨τ6, G6, S6, z⟩ => exact gone_ok (S6.unsuite Y.ok.ok) hN hi ho fun s7 J => ⟨τ6.set i none, G6, J, z⟩
      | .ret u, ⟨v6, τ6, G6, S6, r6, z⟩ => exact gone_ok (S6.unsuite Y.ok.ok) hN hi ho fun s7 J => ⟨v6, τ6.set i none, G6, J, r6, z⟩
end
/-- try: body, any clauses -/
theorem ps_try_hds {X : Cx} {body : List Stmt} {h₀ : ExceptHandler} {hs : List ExceptHandler} {l : List (Value × Option Nat × Suite)} {pos : Pos} {tb : WX → TS} {Wo : WX}
    (st : X.stack = X.env :: X.outer) (fr : X.env.frame = some X.env.locals) (tk : Takes X Wo)
    (bo : ∀ (W : WX) (pn : List (Addr × Obj)) (xe : Value → Shared → Prop), Takes (X.tr pn xe) W → PassesOwn (model X.prog X.w) X.A X.env xe → PSs (X.tr pn xe) body (tb W))
    (hk : HdsN X (h₀ :: hs) l) : PS X (.Try body (h₀ :: hs) [] [] pos) (fun D τ G => tb (wHds X.K Wo D l) D τ G) := by
  constructor
  intro pins s τ G D I q
  have ok := I.ok
  refine wpAny_Try_except (wpAny_mono ((bo (wHds X.K Wo D l) (X.pn ++ pins) _ ?_ PassesOwn.looking).run [] s τ G D (I.toTry _) q) (fun f s1 r => ?_) (fun e s1 r => r))
  · rintro u s2 ⟨a, B, sI, pins', τ2, G2, c, d, rfl, J', nb, up, sky, na, os, ag, wish⟩
    have J := J'.ofTry ok
    have sky2 : Sky B (X.env :: X.outer) a (Zc c d) X.env.locals s2.heap := st ▸ sky
    refine Sky.land Zc.steady (by rw [ok.frames, st]) fr sky2 (fun h f v => ?_)
    refine Down.handle (B := B) (a := a) (c := c) (d := d) (τ := τ2) (G := G2) (s := { s2 with heap := h }) ⟨st, fr, f, fun g k z => J.landed nb k ((up.trans v).trans z) os ag, J.landed nb f.1 (up.trans v) os ag, na, fun g W k z w => ?_⟩ tk hk wish
    exact ⟨a, B, sI, pins, τ2, G2, c, d, rfl, J, nb, (up.trans v).trans z, .inr (.inr (by rw [st]; exact k)), na, os, ag, w⟩
  · match f, r with
    | .next, ⟨τ2, G2, J, z⟩ => exact wpAny_execs_nil ⟨τ2, G2, J.ofTry ok, z⟩
    | .brk, ⟨τ2, G2, J, z⟩ => exact ⟨τ2, G2, J.ofTry ok, z⟩
    | .cont, ⟨τ2, G2, J, z⟩ => exact ⟨τ2, G2, J.ofTry ok, z⟩
    | .ret u, ⟨v, τ2, G2, J, r2, z⟩ => exact ⟨v, τ2, G2, J.ofTry ok, r2, z⟩
end SH
set_option Elab.async false
set_option linter.all false
set_option maxRecDepth 100000
set_option maxHeartbeats 4000000
/-! errors with a number: made by the base's __init__, raised, caught, asked for their number -/
namespace SH
open PySem PySem.Spec PyProof.Rows L2
/-- numbers that an error is made with here -/
def Small (n : Int) : Prop := n.natAbs < 2 ^ 200
theorem small_bits {n : Int} (h : Small n) : decide ((1000 : Int) < ((Builtin.Int.intBits n : Nat) : Int)) = false := by
  have a := PySem.Flt.log2_lt_of (by decide : 0 < 200) h
  have b : Builtin.Int.intBits n ≤ n.natAbs.log2 + 1 := by
    unfold Builtin.Int.intBits
    split <;> omega
  refine decide_eq_false ?_
  omega
theorem small_of {n : Int} (h0 : -1000000 ≤ n) (h1 : n ≤ 1000000) : Small n := Nat.lt_of_le_of_lt (by omega : n.natAbs ≤ 1000000) (by decide)
/-- __init__(self, at) at a new exception: its dict gets the number -/
def spInitAt (K : PySem.W.Frag) : Sp := fun vs H Q _ => ∃ (a C : Addr) (n : Int), vs = [.ref a, .int n] ∧ OexC K C ∧ PySem.W.findIn K (.ref C) "at" = some none ∧ Small n ∧ H a = some (exo a C none) ∧
  ∀ dx : Addr, H dx = none → dx ≠ a → Q .non (upd (upd H dx (exd dx [(("at" : Str), .int n)])) a (exo a C (some dx)))
/-- what the top says of an error's class -/
structure ErrC (K : PySem.W.Frag) (mg : Str → Option Value) (x : Str) (C fI : Addr) : Prop where
  g : mg x = some (.ref C)
  o : OexC K C
  i : PySem.W.findIn K (.ref C) "__init__" = some (some (.ref fI))
  no : PySem.W.findIn K (.ref C) "at" = some none
  f : XfC K C
/-- .. and of the __init__ -/
structure InitOk (P : Program) (w : World) (K : PySem.W.Frag) (mg : Str → Option Value) (base : Heap) (fI : Addr) : Prop where
  ex : ∃ fd : FuncData, FnOk P w K mg base CX0 1 fI fd ["self", "at"] (spInitAt K) ∧ Binds K fd ["self", "at"] [] ∧ PySem.W.typeIn K (.ref fI) = some (.type "function")
/-- .. as it stands in the text -/
structure DdI (K : PySem.W.Frag) (q : Str) (st : Stmt) (fI : Addr) : Prop where
  ex : ∃ fd : FuncData, Fun K "__init__" q st fI fd ∧ Binds K fd ["self", "at"] [] ∧ PySem.W.typeIn K (.ref fI) = some (.type "function")
section
variable {X : Cx} {k : Nat} {x : Str} {C fI : Addr} {e : Expr} {ta : TA} {p pos : Pos}
/-- x(e): a new error of the class at C -/
theorem pmk_at (T : ErrC X.K X.mg x C fI) (I : InitOk X.prog X.w X.K X.mg X.base fI) (hr : Room k X.A) (hk : 2 ≤ k) (hg : Gl X x) (ha : PA X (e :: []) ta)
    (hd : (x == ("__debug__" : Str)) = false := by decide) (he : starEach (e :: []) X.env = (false, eval e X.env) :: starEach [] X.env := by rfl) (hp : (backTo pos (starEach [] X.env)).any (·.1) = false := by rfl) :
    PMk X (.Call (.Name x p) (e :: []) [] pos) (tMkO C (spInitAt X.K) [] ta) := by
  obtain ⟨fd, F, b, t⟩ := I.ex
  exact pmk_oex T.o T.i t F (hr.mono hk) b .nil pass0 hg T.g ha hd he hp
end
/-- the reading of a made error, behind its argument -/
theorem mk_at {K : PySem.W.Frag} {C : Addr} {H1 : Hp} {n : Int} {Q : XK} (To : OexC K C) (Tn : PySem.W.findIn K (.ref C) "at" = some none) (hs : Small n)
    (go : ∀ (d : Addr) (H2 : Hp), Same H1 H2 → H1 d = none → H2 d = some (.xd [(("at" : Str), .int n)]) → Q (.ref C) (some d) H2) :
    [V.int n].length ≤ 1000 ∧ ∀ a, H1 a = none → spInitAt K (.ref a :: ([V.int n] ++ [])) (upd H1 a (exo a C none))
      (fun v H2 => v = .non ∧ ∃ (d : Addr) (fs : List (Str × V)), H2 a = some (exo a C (some d)) ∧ H2 d = some (exd d fs) ∧ H1 d = none ∧ Q (.ref C) (some d) (upd (del H2 a) d (.xd fs))) (fun _ _ _ => False) := by
  refine ⟨(by show 1 ≤ 1000; decide), fun a na => ⟨a, C, n, rfl, To, Tn, hs, upd_same, fun dx ndx ne => ⟨rfl, dx, [(("at" : Str), V.int n)], upd_same, ?_, ?_, ?_⟩⟩⟩
  · rw [upd_ne ne, upd_same]
  · rw [upd_ne ne] at ndx
    exact ndx
  · rw [upd_ne ne] at ndx
    refine go dx _ (fun b o hb => ?_) ndx upd_same
    have b1 : b ≠ dx := ne_of_none hb ndx
    have b2 : b ≠ a := ne_of_none hb na
    rw [upd_ne b1, del_ne b2, upd_ne b2, upd_ne b1, upd_ne b2]
    exact hb
theorem wHds_skip {K : PySem.W.Frag} {Wo : WX} {D : Ends} {q : Value × Option Nat × Suite} {r : List (Value × Option Nat × Suite)} {c : Value} {d : Option Addr} {τ : L2.St} {G : Hp} (h : PySem.W.exmOne K c q.1 = some false)
    (go : wHds K Wo D r c d τ G) : wHds K Wo D (q :: r) c d τ G := ⟨false, h, (fun z => Bool.noConfusion z), fun _ => go⟩
theorem wHds_take {K : PySem.W.Frag} {Wo : WX} {D : Ends} {q : Value × Option Nat × Suite} {r : List (Value × Option Nat × Suite)} {c : Value} {d : Option Addr} {τ : L2.St} {G : Hp} (h : PySem.W.exmOne K c q.1 = some true)
    (go : ∀ a, G a = none → enter q.2.1 q.2.2 a c d D τ G) : wHds K Wo D (q :: r) c d τ G := ⟨true, h, (fun _ => go), (fun z => Bool.noConfusion z)⟩
theorem exm_of {K : PySem.W.Frag} {C D : Addr} {b : Bool} (h1 : PySem.W.subIn K (.ref D) (.type "BaseException") = some true) (h2 : PySem.W.isClsIn K D = true) (h3 : PySem.W.typeIn K (.ref D) = some (.type "type"))
    (h4 : PySem.W.subIn K (.ref C) (.ref D) = some b) : PySem.W.exmOne K (.ref C) (.ref D) = some b := by
  have c1 : (PySem.W.subIn K (.ref D) (.type "BaseException") == some true) = true := by rw [h1]; rfl
  have c2 : ((PySem.W.clsIn K D).isSome && PySem.W.typeIn K (.ref D) == some (.type "type")) = true := by
    have h2' : (PySem.W.clsIn K D).isSome = true := h2
    rw [h3, h2']; rfl
  unfold PySem.W.exmOne
  rw [if_pos c1]
  show (if ((PySem.W.clsIn K D).isSome && PySem.W.typeIn K (.ref D) == some (.type "type")) = true then PySem.W.subIn K (.ref C) (.ref D) else none) = some b
  rw [if_pos c2]
  exact h4
end SH
set_option Elab.async false
set_option linter.all false
set_option maxRecDepth 100000
set_option maxHeartbeats 4000000
namespace SH
open PySem PySem.Spec PyProof.Rows L2
/-! comprehensions whose steps only add to the heap: RL tells what the list made so far is -/
/-- all but what stands at D is as it was -/
def But (D : Addr) (H H' : Hp) : Prop := ∀ b o, b ≠ D → H b = some o → H' b = some o
theorem but_upd {D : Addr} {H : Hp} {o : HO} : But D H (upd H D o) := fun b x n e => by
  rw [upd_ne n]
  exact e
theorem but_tup {K : PySem.W.Frag} {D t : Addr} {H H' : Hp} {l xs : List V} (hD : H D = some (.lst l)) (e : But D H H') (h : SqT K H t xs) : SqT K H' t xs := by
  rcases h with h | h
  · rcases h with h | h
    · refine Or.inl (Or.inl (e _ _ (fun z => ?_) h))
      rw [z, hD] at h
      cases h
    · obtain ⟨o, h⟩ := h
      refine Or.inl (Or.inr ⟨o, e _ _ (fun z => ?_) h⟩)
      rw [z, hD] at h
      cases h
  · exact Or.inr h
theorem but_pairs {K : PySem.W.Frag} {D : Addr} {H H' : Hp} {l : List V} {L : PL} (hD : H D = some (.lst l)) (e : But D H H') (h : PairsAt K H L) : PairsAt K H' L := fun q hq => but_tup hD e (h q hq)
section
variable {J : It} {n : Nat} {G : Hp → Prop} {Y : Nat → Hp → V → Hp → Prop}
theorem lc_w (w : Walk J n G Y) {g : TG} {tt : TT} {te : TE} {vs : List Nat} {τ : L2.St} {H1 : Hp} {D : Addr} {Qd : Hp → Prop} (hD : H1 D = none) (hn : n ≤ 100000) (hG : ∀ H, Same H1 H → G H)
    (RL : Nat → List V → Hp → Prop) (h0 : ∀ H, Same H1 H → RL 0 [] H) (mono : ∀ i acc H H' l, H D = some (.lst l) → But D H H' → RL i acc H → RL i acc H')
    (hY : ∀ i H x H', Y i H x H' → Same H H')
    (hs : ∀ (i : Nat) (x : V) (acc : List V) (H H' : Hp) (Qn : VK) (Qf : Hp → Prop), i < n → Same H1 H' → Y i H x H' → RL i acc H' → H' D = some (.lst acc) → (∀ y H4, Same H' H4 → RL (i + 1) (acc ++ [y]) H4 → Qn y H4) → (∀ H3, Same H' H3 → RL (i + 1) acc H3 → Qf H3) →
      g x (wipe τ vs) H' fun τ2 H2 => wipe τ2 vs = wipe τ vs ∧ tt τ2 H2 fun b H3 => if b = true then te τ2 H3 Qn else Qf H3)
    (hd : ∀ acc H, Same H1 H → H D = some (.lst acc) → acc.length ≤ n → RL n acc H → Qd H) :
    ∃ W : Nat → Nat → Hp → Prop, (∃ m, W 0 m (upd H1 D (.lst []))) ∧ ∀ i m H, W i m H →
      (J.stop i H ∧ Qd H) ∨ (J.go i H ∧ ∃ Nx : Hp → Prop, (∀ H', Nx H' → ∃ m', m' < m ∧ W (i + 1) m' H') ∧ ∀ x H', J.yld i H x H' → g x (wipe τ vs) H' fun τ2 H2 => wipe τ2 vs = wipe τ vs ∧ tt τ2 H2 fun b H3 =>
        if b = true then te τ2 H3 fun y H4 => ∃ acc, H4 D = some (.lst acc) ∧ acc.length < sizeLine ∧ Nx (upd H4 D (.lst (acc ++ [y]))) else Nx H3) := by
  refine lc_it w (fun i H => ∃ acc, Same H1 H ∧ H D = some (.lst acc) ∧ acc.length ≤ i ∧ RL i acc H) ⟨[], same_new hD, upd_same, Nat.le_refl _, h0 _ (same_new hD)⟩ (fun i H _ p => ?_) (fun i x H H' hi p y => ?_) (fun H p => ?_)
  · obtain ⟨acc, e, _⟩ := p
    exact hG H e
  · obtain ⟨acc, e, at_, hl, r⟩ := p
    have e1 := hY i H x H' y
    have at1 := e1 _ _ at_
    refine hs i x acc H H' _ _ hi (e.trans e1) y (mono i acc H H' acc at_ (fun b o _ h => e1 b o h) r) at1 (fun z H4 e2 r2 => ?_) (fun H3 e2 r2 => ?_)
    · have at2 := e2 _ _ at1
      refine ⟨acc, at2, Nat.lt_of_le_of_lt (Nat.le_trans hl (Nat.le_of_lt (Nat.lt_of_lt_of_le hi hn))) (by decide), acc ++ [z], same_mut ((e.trans e1).trans e2) hD, upd_same, by simp; omega, mono _ _ H4 _ acc at2 but_upd r2⟩
    · exact ⟨acc, (e.trans e1).trans e2, e2 _ _ at1, by omega, r2⟩
  · obtain ⟨acc, e, at_, hl, r⟩ := p
    exact hd acc H e at_ hl r
end
/-! ### numbers and texts -/
theorem lt1 (c d : Nat) : decide (([c] : List Nat) < [d]) = decide (c < d) := by
  by_cases h : c < d
  · rw [decide_eq_true h]
    exact decide_eq_true (List.Lex.rel h)
  · rw [decide_eq_false h]
    refine decide_eq_false fun z => ?_
    cases z with
    | rel q => exact h q
    | cons q => cases q
/-- a text of the document: not too long, of letters -/
def isTxt (z : Str) : Bool := decide (z.length ≤ 40) && z.cps.toList.all okc
/-- a house of the document, behind a number -/
def chk (before : Int) : List (Int × Str) → Bool
  | [] => true
  | q :: r => decide (before < q.1) && decide (q.1 ≤ 99) && isTxt q.2 && chk q.1 r
def isH (h : List (Int × Str)) : Bool := decide (h.length ≤ 8) && chk (-1) h
theorem chk_of {m : Nat} (hm : m ≤ 40) : ∀ (h : List (Int × Str)) (b : Int), (∀ q ∈ h, b < q.1) → IsHs m h → chk b h = true
  | [], _, _, _ => rfl
  | q :: r, b, hb, a => by
    have t := a.txt q (List.mem_cons_self ..)
    have n := a.num q (List.mem_cons_self ..)
    have asc := a.asc
    rw [List.map_cons, List.pairwise_cons] at asc
    have ih := chk_of hm r q.1 (fun x hx => asc.1 x.1 (List.mem_map_of_mem hx)) ⟨asc.2, fun x hx => a.num x (List.mem_cons_of_mem _ hx), fun x hx => a.txt x (List.mem_cons_of_mem _ hx)⟩
    show (decide (b < q.1) && decide (q.1 ≤ 99) && isTxt q.2 && chk q.1 r) = true
    have e1 := hb q (List.mem_cons_self ..)
    have e2 : isTxt q.2 = true := by
      unfold isTxt
      rw [decide_eq_true (Nat.le_trans t.2 hm)]
      exact t.1
    rw [ih, e2, decide_eq_true e1, decide_eq_true n.2]
    rfl
end SH
set_option Elab.async false
set_option linter.all false
set_option maxRecDepth 100000
set_option maxHeartbeats 4000000
/-! sorted(xs), xs a list of pairs of a number and a text; pairs with one number have one text -/
namespace SH
open PySem PySem.Spec PyProof.Rows L2
def NT (h : Heap) (v : Value) (p : Int × Str) : Prop := ∃ (a : Addr) (o : Obj) (t u : Tok) (c : Nat), v = .ref a ∧ h.get? a = some o ∧ o.cls = .type "tuple" ∧ o.data = .seq #[.int p.1 t, .str p.2 u] c
theorem NT.on {h h' : Heap} {v : Value} {p : Int × Str} (x : NT h v p) (k : ∀ b o, h.get? b = some o → o.cls = .type "tuple" → h'.get? b = some o) : NT h' v p := by
  obtain ⟨a, o, t, u, c, rfl, g, q, r⟩ := x
  exact ⟨a, o, t, u, c, rfl, k a o g q, q, r⟩
theorem nt_firsts {h : Heap} {k : Value → Int × Str} : ∀ (vs : List Value), (∀ v ∈ vs, NT h v (k v)) → ∃ fs, PySem.W.KatTups h vs fs ∧ fs.length = vs.length ∧ ∀ f ∈ fs, ∃ n t, f = Value.int n t
  | [], _ => ⟨[], PySem.W.KatTups.nil, rfl, fun _ m => nomatch m⟩
  | v :: r, x => by
    obtain ⟨fs, k1, k2, k3⟩ := nt_firsts r (fun u m => x u (List.mem_cons_of_mem _ m))
    obtain ⟨a, o, t, u, c, rfl, g, q, d⟩ := x v (List.mem_cons_self ..)
    refine ⟨_, PySem.W.KatTups.cons g q d rfl k1, by simp [k2], fun f m => ?_⟩
    rcases List.mem_cons.mp m with e | m
    · exact ⟨_, _, e⟩
    · exact k3 f m
def ltN (k : Value → Int × Str) (v u : Value) : Bool := decide ((k v).1 < (k u).1)
theorem ltN_swo (k : Value → Int × Str) : SrtO.Swo (ltN k) :=
  ⟨fun x y h => decide_eq_false (by have := of_decide_eq_true h; omega), fun x y z h1 h2 => decide_eq_false (by have a := of_decide_eq_false h1; have b := of_decide_eq_false h2; omega)⟩
section
variable {prog : Program} {w : World} {A : Around} {s : Shared}
theorem nt_cmp {vs : List Value} {k : Value → Int × Str} (hp : ∀ v ∈ vs, NT s.heap v (k v)) (one : ∀ v ∈ vs, ∀ u ∈ vs, (k v).1 = (k u).1 → (k v).2 = (k u).2) :
    SrtO.Cmp prog w A s (tuples' true) (fun p => p.1 ∈ vs) (SrtO.lt2 (ltN k)) := by
  rintro ⟨x, kx⟩ ⟨y, ky⟩ mp mq
  have same := one _ mp _ mq
  show wpAny (model prog w) A (keyLt' (tuples' true) x y) (fun r s' => s' = s ∧ r = decide ((k x).1 < (k y).1)) (fun _ _ => False) s
  obtain ⟨a, o, t, u, c, e, g, cl, d⟩ := hp _ mp
  obtain ⟨a', o', t', u', c', e', g', cl', d'⟩ := hp _ mq
  have ex : x = .ref a := e
  have ey : y = .ref a' := e'
  subst ex ey
  refine PySem.W.kat_lt g d g' d' (PySem.W.kat_cons (SeqAt.EqAt.int_int _ t _ t' prog w _ _ (PySem.W.kat_go (fun e1 => ?_) (fun e1 => ?_))))
  · have en : (k (.ref a)).1 = (k (.ref a')).1 := by simpa using e1
    have ez := same en
    refine PySem.W.kat_yes (PySem.W.kat_cons (SeqAt.EqAt.str_str _ u _ u' prog w _ _ (PySem.W.kat_go (fun _ => ?_) (fun e2 => ?_))))
    · refine PySem.W.kat_yes (PySem.W.kat_nil ⟨rfl, ?_⟩)
      rw [en]
      simp
    · rw [ez] at e2
      simp at e2
  · exact PySem.W.kat_no (oneLt_int ⟨rfl, rfl⟩)
theorem nt_sortable {a : Addr} {vs : List Value} {k : Value → Int × Str} (h0 : 0 < vs.length) (hp : ∀ v ∈ vs, NT s.heap v (k v)) (one : ∀ v ∈ vs, ∀ u ∈ vs, (k v).1 = (k u).1 → (k v).2 = (k u).2)
    (ha : ∀ o, s.heap.get? a = some o → o.cls ≠ .type "tuple") : SrtO.SortableO prog w A s a vs (ltN k) := by
  intro h' keep
  have hp' : ∀ v ∈ vs, NT h' v (k v) := fun v m => (hp v m).on fun b o g c => keep b o (fun z => ha o (z ▸ g) c) g
  obtain ⟨fs, f1, f2, f3⟩ := nt_firsts vs hp'
  refine ⟨tuples' true, fun Q E q => PySem.W.kat_kind (T := .type "int") f1 (by omega) (fun f m => ?_) (by rfl) ?_, nt_cmp hp' one⟩
  · obtain ⟨n, t, rfl⟩ := f3 f m
    exact PySem.W.Looks.now
  · have e : (Value.type "int" != Value.type "tuple") = true := by first | decide +kernel | rfl
    rw [e]
    exact q
end
/-- sorted(xs): a new list of the same pairs, by their numbers -/
def rSortNT (K : PySem.W.Frag) : List V → Hp → VK → Prop := fun vs H Q => ∃ (a : Addr) (L : PL), vs = [.ref a] ∧ HsAt K H a L ∧ (∀ q ∈ L, ∀ r ∈ L, q.2.1 = r.2.1 → q.2.2 = r.2.2) ∧
  ∀ (L' : PL) (p : Addr), L'.Perm L → L'.Pairwise (fun q r => q.2.1 ≤ r.2.1) → H p = none → Q (.ref p) (upd H p (.lst (refs L')))
/-- what stands at the address in a list of pairs -/
def atAddr (L : PL) (v : Value) : Int × Str := match v with
  | .ref a => match L.find? (fun q => q.1 == a) with
    | some q => q.2
    | none => (0, "")
  | _ => (0, "")
def addrOf : Value → Addr
  | .ref a => a
  | _ => 0
theorem atAddr_of {L : PL} (un : ∀ q ∈ L, ∀ r ∈ L, q.1 = r.1 → q.2 = r.2) {q : Addr × Int × Str} (hq : q ∈ L) : atAddr L (.ref q.1) = q.2 := by
  show (match L.find? (fun r => r.1 == q.1) with | some r => r.2 | none => (0, "")) = q.2
  cases e : L.find? (fun r => r.1 == q.1) with
  | some r =>
    have h1 := List.mem_of_find?_eq_some e
    have h2 := List.find?_some e
    exact un r h1 q hq (by simpa using h2)
  | none =>
    have := List.find?_eq_none.mp e q hq
    simp at this
section
variable {X : Cx}
theorem cr_sortNT : CallR X (.builtin "sorted") (rSortNT X.K) := by
  intro pins s τ H vs us Q I r h
  obtain ⟨a, L, rfl, hA, one, q⟩ := h
  obtain ⟨its, rv, hl, hz⟩ := I.list hA.1
  obtain ⟨u, rfl, ru⟩ := vals1 r
  obtain rfl : u = Value.ref a := ru
  obtain ⟨e1, e2⟩ := refs_back rv (fun x m => by
    obtain ⟨q, _, e⟩ := List.mem_map.mp m
    exact ⟨q.1, e.symm⟩)
  -- one address, one pair
  have un : ∀ q ∈ L, ∀ r ∈ L, q.1 = r.1 → q.2 = r.2 := fun q hq r hr e => by
    have z := I.tuple_inj (hA.2 q hq) (by rw [e]; exact hA.2 r hr)
    obtain ⟨x, n, t⟩ := q
    obtain ⟨y, m, t'⟩ := r
    simp at z
    show (n, t) = (m, t')
    rw [z.1, z.2]
  have mem : ∀ v ∈ its, ∃ q ∈ L, v = Value.ref q.1 := fun v hv => by
    obtain ⟨t, rfl⟩ := e2 v hv
    have m : V.ref t ∈ refs L := by
      rw [e1]
      exact List.mem_map.mpr ⟨_, hv, rfl⟩
    obtain ⟨q, hq, e⟩ := List.mem_map.mp m
    cases e
    exact ⟨q, hq, rfl⟩
  have nt : ∀ v ∈ its, NT s.heap v (atAddr L v) := fun v hv => by
    obtain ⟨q, hq, rfl⟩ := mem v hv
    rw [atAddr_of un hq]
    obtain ⟨i2, r2, ⟨o, g, c, n, d⟩, _⟩ := I.tuple (hA.2 q hq)
    obtain ⟨u1, u2, rfl, ⟨t1, rfl⟩, ⟨t2, rfl⟩⟩ := vals2 r2
    exact ⟨q.1, o, t1, t2, n, rfl, g, c, d⟩
  have one' : ∀ v ∈ its, ∀ u ∈ its, (atAddr L v).1 = (atAddr L u).1 → (atAddr L v).2 = (atAddr L u).2 := fun v hv u hu => by
    obtain ⟨q, hq, rfl⟩ := mem v hv
    obtain ⟨r, hr, rfl⟩ := mem u hu
    rw [atAddr_of un hq, atAddr_of un hr]
    exact one q hq r hr
  refine SrtO.sorted_ord (ltN_swo (atAddr L)) hl.isList (by rw [← rv.length]; exact hz) (fun h2 h₁ b hb kk => ?_) (fun out hs hb => ?_)
  · refine nt_sortable (s := { s with heap := h₁ }) (by omega) (fun v m => (nt v m).on fun c o g _ => (kk c o g).2) one' (fun o g c => ?_)
    have g' : some o = some (seqObj "list" its.toArray 0) := g.symm.trans hb
    cases g'
    exact absurd (Value.type.inj c) (by decide)
  · have mo : ∀ v ∈ out, ∃ q ∈ L, v = Value.ref q.1 := fun v hv => mem v (hb.perm.mem_iff.mp hv)
    -- the pairs in their new order
    let f : Value → Addr × Int × Str := fun v => (addrOf v, atAddr L v)
    have fq : ∀ q ∈ L, f (.ref q.1) = q := fun q hq => by
      show (q.1, atAddr L (.ref q.1)) = q
      rw [atAddr_of un hq]
    have hL : its.map f = L := by
      have z : (refs L).map (fun v => match v with | .ref t => f (.ref t) | _ => (0, 0, "")) = L := by
        unfold refs
        rw [List.map_map]
        calc L.map _ = L.map id := List.map_congr_left fun q hq => fq q hq
          _ = L := List.map_id L
      rw [e1, List.map_map] at z
      refine Eq.trans (List.map_congr_left fun v hv => ?_) z
      obtain ⟨q, _, rfl⟩ := mem v hv
      rfl
    have hp : (out.map f).Perm L := by
      rw [← hL]
      exact hb.perm.map f
    have hr : refs (out.map f) = out.map backV := by
      unfold refs
      rw [List.map_map]
      refine List.map_congr_left fun v hv => ?_
      obtain ⟨q, _, rfl⟩ := mo v hv
      rfl
    have hsrt : (out.map f).Pairwise (fun q r => q.2.1 ≤ r.2.1) := by
      rw [List.pairwise_map]
      refine List.Pairwise.imp (fun {x y} h => ?_) hs
      have := of_decide_eq_false h
      show (atAddr L x).1 ≤ (atAddr L y).1
      omega
    obtain ⟨n, hn⟩ := sortedAll_at s.heap its out.toArray
    have hd : s.heap.objs.size ≤ s.heap.objs.size + 1 := Nat.le_succ _
    refine ⟨.ref (s.heap.objs.size + 1), upd H (s.heap.objs.size + 1) (.lst (refs (out.map f))), I.laid (t' := s.toks) (fun b o g => sortedAll_old g) hd ⟨?_, out, n, ?_, hn⟩, rfl, q _ _ hp hsrt (I.hok.fresh hd)⟩
    · have e3 : (refs (out.map f)).length = (refs L).length := by
        unfold refs
        rw [List.length_map, List.length_map (as := L), hp.length_eq]
      rw [e3]
      exact hz
    · rw [hr]
      exact vals_back fun v hv => by
        obtain ⟨q, _, rfl⟩ := mo v hv
        exact ⟨q.1, rfl⟩
end
end SH
set_option Elab.async false
set_option linter.all false
set_option maxRecDepth 100000
set_option maxHeartbeats 4000000
/-! houses as data, compared -/
namespace SH
open PySem PySem.Spec PyProof.Rows L2
def dPair (q : Int × Str) : PyData := .tuple [.int q.1, .str q.2]
def dH (h : List (Int × Str)) : PyData := .list (h.map dPair)
theorem dp_refs {K : PySem.W.Frag} {H : Hp} : ∀ (L : PL), PairsAt K H L → DpAll K H (refs L) (L.map fun q => dPair q.2)
  | [], _ => .nil
  | q :: r, h => .cons (.tup (h q (List.mem_cons_self ..)) (.cons (.int _) (.cons (.str _) .nil))) (dp_refs r fun x m => h x (List.mem_cons_of_mem _ m))
theorem dp_house {K : PySem.W.Frag} {H : Hp} {a : Addr} {L : PL} (h : HsAt K H a L) : Dp K H (.ref a) (dH (L.map (·.2))) := by
  refine .lst h.1 ?_
  rw [List.map_map]
  exact dp_refs L h.2
theorem okc_lt {c : Nat} (h : okc c = true) : c < 127 := by
  unfold okc at h
  simp at h
  omega
theorem let_ok {z : Str} (h : IsLet z) : PyData.strOk z = true := by
  unfold PyData.strOk
  rw [← Array.all_toList]
  refine List.all_eq_true.mpr fun c hc => ?_
  have := okc_lt (List.all_eq_true.mp h c hc)
  exact decide_eq_true (by omega)
def LetAll (h : List (Int × Str)) : Prop := ∀ q ∈ h, IsLet q.2
theorem dH_lay : ∀ {h : List (Int × Str)}, LetAll h → PyData.canLayAll0 (h.map dPair) = true
  | [], _ => rfl
  | q :: r, a => by
    rw [List.map_cons, PyData.canLayAll0, dH_lay fun x m => a x (List.mem_cons_of_mem _ m)]
    simp [dPair, PyData.canLay0, PyData.canLayAll0, let_ok (a q (List.mem_cons_self ..))]
theorem dH_deep : ∀ (h : List (Int × Str)), PyData.depthAll (h.map dPair) ≤ 1
  | [] => Nat.zero_le _
  | q :: r => by
    rw [List.map_cons, PyData.depthAll]
    have := dH_deep r
    have e : PyData.depth (dPair q) = 1 := rfl
    rw [e]
    omega
theorem dH_shaped {h : List (Int × Str)} (a : LetAll h) : SeqAt.shaped (dH h) = true := by
  unfold SeqAt.shaped
  have e1 : (dH h).canLay0 = true := dH_lay a
  have e2 : (dH h).depth ≤ 64 := by
    show PyData.depthAll (h.map dPair) + 1 ≤ 64
    have := dH_deep h
    omega
  rw [e1, decide_eq_true e2]
  rfl
theorem dH_refl {h : List (Int × Str)} (a : LetAll h) : PyData.eqv (dH h) (dH h) = true := SeqAt.eqv_refl _ (show (dH h).canLay0 = true from dH_lay a)
/-- what is told or due: a tag and a thing -/
def dT (p : Str × PyData) : PyData := .tuple [.str p.1, p.2]
theorem dT_shaped {p : Str × PyData} (h1 : PyData.strOk p.1 = true) (h2 : p.2.canLay0 = true) (h3 : p.2.depth ≤ 60) : SeqAt.shaped (dT p) = true ∧ PyData.eqv (dT p) (dT p) = true := by
  have e1 : (dT p).canLay0 = true := by
    show (PyData.strOk p.1 && (p.2.canLay0 && true)) = true
    rw [h1, h2]
    rfl
  have e2 : (dT p).depth ≤ 64 := by
    show max 0 (max p.2.depth 0) + 1 ≤ 64
    omega
  refine ⟨?_, SeqAt.eqv_refl _ e1⟩
  unfold SeqAt.shaped
  rw [e1, decide_eq_true e2]
  rfl
theorem dH_depth (h : List (Int × Str)) : (dH h).depth ≤ 60 := by
  show PyData.depthAll (h.map dPair) + 1 ≤ 60
  have := dH_deep h
  omega
theorem isTxt_let {z : Str} (h : isTxt z = true) : IsLet z := by
  unfold isTxt at h
  exact (Bool.and_eq_true_iff.mp h).2
theorem IsHs.letAll {m : Nat} {h : List (Int × Str)} (a : IsHs m h) : LetAll h := fun q hq => (a.txt q hq).1
theorem LetAll.filter {h : List (Int × Str)} (a : LetAll h) (p : Int × Str → Bool) : LetAll (h.filter p) := fun q hq => a q (List.mem_filter.mp hq).1
theorem LetAll.app {h k : List (Int × Str)} (a : LetAll h) (b : LetAll k) : LetAll (h ++ k) := fun q hq => (List.mem_append.mp hq).elim (a q) (b q)
theorem letAll_ins {n : Int} {z : Str} {h : List (Int × Str)} (a : LetAll h) (b : IsLet z) : LetAll (h.filter (fun q => decide (q.1 < n)) ++ [(n, z)] ++ h.filter (fun q => decide (n < q.1))) :=
  ((a.filter _).app fun q hq => by rw [List.mem_singleton.mp hq]; exact b).app (a.filter _)
/-! a house that is none -/
theorem chk_true : ∀ {h : List (Int × Str)} {b : Int}, chk b h = true → (h.map (·.1)).Pairwise (· < ·) ∧ (∀ q ∈ h, b < q.1 ∧ q.1 ≤ 99 ∧ isTxt q.2 = true)
  | [], _, _ => ⟨List.Pairwise.nil, fun q hq => nomatch hq⟩
  | q :: r, b, h => by
    have h' : (decide (b < q.1) && decide (q.1 ≤ 99) && isTxt q.2 && chk q.1 r) = true := h
    simp only [Bool.and_eq_true, decide_eq_true_eq] at h'
    obtain ⟨⟨⟨h1, h2⟩, h3⟩, h4⟩ := h'
    obtain ⟨i1, i2⟩ := chk_true h4
    refine ⟨?_, fun x hx => ?_⟩
    · rw [List.map_cons, List.pairwise_cons]
      refine ⟨fun y hy => ?_, i1⟩
      obtain ⟨z, hz, rfl⟩ := List.mem_map.mp hy
      exact (i2 z hz).1
    · rcases List.mem_cons.mp hx with e | m
      · rw [e]; exact ⟨h1, h2, h3⟩
      · have := i2 x m
        exact ⟨by omega, this.2⟩
theorem isH_false {h : List (Int × Str)} (no : ¬ (h.length ≤ 8 ∧ (h.map (·.1)).Pairwise (· < ·) ∧ ∀ q ∈ h, -1 < q.1 ∧ q.1 ≤ 99 ∧ isTxt q.2 = true)) : isH h = false := by
  cases e : isH h with
  | false => rfl
  | true =>
    unfold isH at e
    obtain ⟨e1, e2⟩ := Bool.and_eq_true_iff.mp e
    exact absurd ⟨of_decide_eq_true e1, chk_true e2⟩ no
/-! ### a house filtered, pair by pair -/
theorem refs_get {L : PL} {i : Nat} {x : V} (h : (refs L)[i]? = some x) : ∃ t, L[i]? = some t ∧ t ∈ L ∧ x = .ref t.1 := by
  unfold refs at h
  rw [List.getElem?_map] at h
  cases e : L[i]? with
  | none => rw [e] at h; cases h
  | some t =>
    rw [e] at h
    cases h
    exact ⟨t, rfl, List.mem_of_getElem? e, rfl⟩
theorem lc_filter {K : PySem.W.Frag} {a : Addr} {L : PL} {g : TG} {tt : TT} {te : TE} {vs : List Nat} {τ : L2.St} {H1 : Hp} {D : Addr} {Qd : Hp → Prop} (hD : H1 D = none) (hA : HsAt K H1 a L) (hl : L.length ≤ 1000) (p : Addr × Int × Str → Bool)
    (hs : ∀ (q : Addr × Int × Str) (H' : Hp) (Qn : VK) (Qf : Hp → Prop), q ∈ L → Same H1 H' → (p q = true → Qn (.ref q.1) H') → (p q = false → Qf H') →
      g (.ref q.1) (wipe τ vs) H' fun τ2 H2 => wipe τ2 vs = wipe τ vs ∧ tt τ2 H2 fun b H3 => if b = true then te τ2 H3 Qn else Qf H3)
    (hd : ∀ H, Same H1 H → H D = some (.lst (refs (L.filter p))) → Qd H) :
    ∃ W : Nat → Nat → Hp → Prop, (∃ m, W 0 m (upd H1 D (.lst []))) ∧ ∀ i m H, W i m H →
      ((Itl K a).stop i H ∧ Qd H) ∨ ((Itl K a).go i H ∧ ∃ Nx : Hp → Prop, (∀ H', Nx H' → ∃ m', m' < m ∧ W (i + 1) m' H') ∧ ∀ x H', (Itl K a).yld i H x H' → g x (wipe τ vs) H' fun τ2 H2 => wipe τ2 vs = wipe τ vs ∧ tt τ2 H2 fun b H3 =>
        if b = true then te τ2 H3 fun y H4 => ∃ acc, H4 D = some (.lst acc) ∧ acc.length < sizeLine ∧ Nx (upd H4 D (.lst (acc ++ [y]))) else Nx H3) := by
  have rl : (refs L).length = L.length := List.length_map ..
  refine lc_w (walk_list (xs := refs L)) hD (by omega) (fun H' e => e.seq hA.1) (fun i acc _ => acc = refs ((L.take i).filter p)) (fun _ _ => rfl) (fun _ _ _ _ _ _ _ r => r) (fun i H x H' y => by rw [y.1]; exact Same.refl _)
    (fun i x acc H2 H3 Qn Qf hi sm y r at_ kn kf => ?_) (fun acc H2 sm at_ _ r => ?_)
  · obtain ⟨rfl, hx⟩ := y
    obtain ⟨t, ht, tm, rfl⟩ := refs_get hx
    refine hs t _ Qn Qf tm sm (fun e => kn _ _ (Same.refl _) ?_) (fun e => kf _ (Same.refl _) ?_)
    · rw [r, List.take_add_one, ht, List.filter_append]
      show _ = refs (_ ++ [t].filter p)
      rw [List.filter_cons_of_pos e]
      unfold refs
      rw [List.map_append]
      rfl
    · rw [r, List.take_add_one, ht, List.filter_append]
      show _ = refs (_ ++ [t].filter p)
      rw [List.filter_cons_of_neg (by rw [e]; decide), List.filter_nil, List.append_nil]
  · refine hd H2 sm ?_
    rw [at_, r, List.take_of_length_le (by omega)]
theorem HsAt.filter {K : PySem.W.Frag} {H : Hp} {L : PL} (h : PairsAt K H L) (p : Addr × Int × Str → Bool) : PairsAt K H (L.filter p) := fun q hq => h q (List.mem_filter.mp hq).1
theorem map_filter (L : PL) (p : Int × Str → Bool) : (L.filter fun q => p q.2).map (·.2) = (L.map (·.2)).filter p := by
  rw [List.filter_map]
  rfl
mutual
theorem dp_same {K : PySem.W.Frag} {H H' : Hp} (e : Same H H') : ∀ {d : PyData} {v : V}, Dp K H v d → Dp K H' v d
  | .none, _, h => by cases h; exact .non
  | .bool _, _, h => by cases h; exact .bl _
  | .int _, _, h => by cases h; exact .int _
  | .str _, _, h => by cases h; exact .str _
  | .list ds, _, h => by
    cases h with
    | lst s a => exact .lst (e.seq s) (dp_all_same e a)
  | .tuple ds, _, h => by
    cases h with
    | tup s a => exact .tup (same_tup e s) (dp_all_same e a)
  | .dict _, _, h => by cases h
theorem dp_all_same {K : PySem.W.Frag} {H H' : Hp} (e : Same H H') : ∀ {ds : List PyData} {vs : List V}, DpAll K H vs ds → DpAll K H' vs ds
  | [], _, h => by cases h; exact .nil
  | d :: ds, _, h => by
    cases h with
    | cons a b => exact .cons (dp_same e a) (dp_all_same e b)
end
/-! ### slices, texts of one letter joined -/
theorem cut_to (xs : List V) (k : Nat) : cutV xs none (some (k : Int)) = xs.take k := by
  unfold cutV
  rw [HT.sIx_none, HT.sIx_nat, List.drop_zero, Nat.sub_zero]
  rcases Nat.le_total k xs.length with h | h
  · rw [Nat.min_eq_left h]
  · rw [Nat.min_eq_right h, List.take_length, List.take_of_length_le h]
theorem joinL_len : ∀ (n c : Nat), (TL.joinL [] (List.replicate n [c])).length = n
  | 0, _ => rfl
  | 1, _ => rfl
  | n + 2, c => by
    show ([c] ++ ([] ++ TL.joinL [] (List.replicate (n + 1) [c]))).length = n + 2
    rw [List.nil_append, List.length_append, joinL_len (n + 1) c]
    show 1 + (n + 1) = n + 2
    omega
theorem join_len {n c : Nat} : (Txt.join "" (List.replicate n (⟨#[c]⟩ : Str))).length = n := by
  have e : (Txt.join "" (List.replicate n (⟨#[c]⟩ : Str))).cps.toList = TL.joinL [] (List.replicate n [c]) := by
    rw [TL.join_eq]
    refine (TL.tl_join "" _).trans ?_
    rw [List.map_replicate]
    rfl
  have e2 := congrArg List.length e
  rw [joinL_len] at e2
  exact e2
theorem joinL_mem {x : Nat} : ∀ (n c : Nat), x ∈ TL.joinL [] (List.replicate n [c]) → x = c
  | 0, _, h => by cases h
  | 1, _, h => by simpa [TL.joinL] using h
  | n + 2, c, h => by
    have h' : x ∈ [c] ++ ([] ++ TL.joinL [] (List.replicate (n + 1) [c])) := h
    rw [List.nil_append] at h'
    rcases List.mem_append.mp h' with m | m
    · exact List.mem_singleton.mp m
    · exact joinL_mem (n + 1) c m
theorem join_mem {n c x : Nat} (h : x ∈ (Txt.join "" (List.replicate n (⟨#[c]⟩ : Str))).cps.toList) : x = c := by
  have e : (Txt.join "" (List.replicate n (⟨#[c]⟩ : Str))).cps.toList = TL.joinL [] (List.replicate n [c]) := by
    rw [TL.join_eq]
    refine (TL.tl_join "" _).trans ?_
    rw [List.map_replicate]
    rfl
  rw [e] at h
  exact joinL_mem n c h
theorem isTxt_long {z : Str} (h : 40 < z.length) : isTxt z = false := by
  unfold isTxt
  rw [decide_eq_false (by omega)]
  rfl
theorem isTxt_line {z : Str} (h : 10 ∈ z.cps.toList) : isTxt z = false := by
  unfold isTxt
  have : z.cps.toList.all okc = false := by
    cases e : z.cps.toList.all okc with
    | false => rfl
    | true => exact absurd (List.all_eq_true.mp e 10 h) (by decide)
  rw [this, Bool.and_false]
end SH
set_option Elab.async false
set_option linter.all false
set_option maxRecDepth 100000
set_option maxHeartbeats 4000000
/-! own classes: their methods, a new instance -/
namespace SH
open PySem PySem.Spec PyProof.Rows L2
/-- a method as it stands -/
structure DdM (K : PySem.W.Frag) (C : Addr) (m qual : Str) (st : Stmt) (ps : List Str) : Prop where
  ex : ∃ (f : Addr) (fd : FuncData), Fun K m qual st f fd ∧ Meth K C m f ∧ Binds K fd ps []
structure DdMk (K : PySem.W.Frag) (C : Addr) (m qual : Str) (st : Stmt) (ps : List Str) : Prop where
  ex : ∃ (f : Addr) (fd : FuncData), Fun K m qual st f fd ∧ Mk K C f ∧ Binds K fd ps []
/-- e.f, the frame said -/
theorem pe_fldK {X : Cx} {K : PySem.W.Frag} {e : Expr} {f : Str} {pos : Pos} {ta : TE} (he : PE X e ta) (hb : attributeBase e f X.env (eval e X.env) = eval e X.env) (h : X.K = K := by rfl) : PE X (.Attribute e f pos) (tFld K ta f) := h ▸ pe_fld he hb
theorem cr_sortedPOK {X : Cx} {K : PySem.W.Frag} (h : X.K = K := by rfl) : CallR X (.builtin "sorted") (rSortedPO K) := h ▸ cr_sortedPO
theorem pi_listK {X : Cx} {K : PySem.W.Frag} {tg e : Expr} {te : TE} (he : PE X e te) (h : X.K = K := by rfl) : PI X tg e (iList K te) := h ▸ pi_list he
section
variable {P : Program} {w : World} {K : PySem.W.Frag} {mg : Str → Option Value} {base : Heap}
theorem met_of {C : Addr} {m qual : Str} {st : Stmt} {ps N : List Str} {k : Nat} {sp : Sp} (D : DdM K C m qual st ps) (c : Cls K C) (S : FnScope N ps (defScope st)) (len : ∀ vs H Q E, sp vs H Q E → vs.length = ps.length)
    (hbody : ∀ (f : Addr) (cdv : Value) (A : Around) (outer : List Env) (s : Shared) (H : Hp) (vs : List V) (Q : VK) (E : XK), Room k (A.deeper (envOfC qual (defScope st) s.heap.objs.size f cdv)) → sp vs H Q E →
      ∃ t, PSs (cxOf CX0 P w K mg base N qual (defScope st) f cdv A outer s H E).nox (defBody st) t ∧ t { nx := fun _ H' => Q .non H', rt := Q } (start N vs) H) : C8.Met P w K mg base (k + 1) C m sp [] := by
  obtain ⟨f, fd, F, me, b⟩ := D.ex
  exact ⟨f, fd, ps, [], c, me, F.ok S len (fun cdv A outer s H vs Q E hr h => hbody f cdv A outer s H vs Q E hr h), b, .nil⟩
theorem mak_of {x : Str} {C : Addr} {m qual : Str} {st : Stmt} {ps N : List Str} {k : Nat} {sp : Sp} (D : DdMk K C m qual st ps) (hm : mg x = some (.ref C)) (S : FnScope N ps (defScope st)) (len : ∀ vs H Q E, sp vs H Q E → vs.length = ps.length)
    (hbody : ∀ (f : Addr) (cdv : Value) (A : Around) (outer : List Env) (s : Shared) (H : Hp) (vs : List V) (Q : VK) (E : XK), Room k (A.deeper (envOfC qual (defScope st) s.heap.objs.size f cdv)) → sp vs H Q E →
      ∃ t, PSs (cxOf CX0 P w K mg base N qual (defScope st) f cdv A outer s H E).nox (defBody st) t ∧ t { nx := fun _ H' => Q .non H', rt := Q } (start N vs) H) : C8.Mak P w K mg base (k + 1) x C sp [] := by
  obtain ⟨f, fd, F, me, b⟩ := D.ex
  exact ⟨f, fd, ps, [], me, F.ok S len (fun cdv A outer s H vs Q E hr h => hbody f cdv A outer s H vs Q E hr h), hm, b, .nil⟩
end
end SH
set_option Elab.async false
set_option linter.all false
set_option maxRecDepth 100000
set_option maxHeartbeats 4000000
/-! sorted(xs) of any data; triples of a text, a number and a start -/
namespace SH
open PySem PySem.Spec PyProof.Rows L2
section
variable {α : Type}
theorem each_of_vals : ∀ {Z : List (V × α)} {its : List Value}, Vals (Z.map (·.1)) its → PySem.W.EachIs (fun v z => RelV z.1 v) its Z
  | [], _, .nil => .nil
  | _ :: _, _, .cons r t => .cons r (each_of_vals t)
theorem vals_of_each : ∀ {Z : List (V × α)} {its : List Value}, PySem.W.EachIs (fun v z => RelV z.1 v) its Z → Vals (Z.map (·.1)) its
  | _, _, .nil => .nil
  | _, _, .cons r t => .cons r (vals_of_each t)
end
/-- sorted(xs): a new list of the same things, by what they read as -/
def rSortD (K : PySem.W.Frag) : List V → Hp → VK → Prop := fun vs H Q => ∃ (α : Type) (enc : α → PyData) (a : Addr) (Z : List (V × α)), vs = [.ref a] ∧ SqL K H a (Z.map (·.1)) ∧ (∀ z ∈ Z, Dp K H z.1 (enc z.2)) ∧
  PySem.W.AllAlike (Z.map fun z => enc z.2) ∧ PySem.W.Sortable (Z.map fun z => enc z.2) ∧ (∀ z ∈ Z, (enc z.2).depth ≤ 60) ∧
  ∀ p : Addr, H p = none → Q (.ref p) (upd H p (.lst ((Z.mergeSort (PySem.W.dataLe false fun z => enc z.2)).map (·.1))))
section
variable {X : Cx}
theorem cr_sortD (hu : X.A.units + 64 < cLine) : CallR X (.builtin "sorted") (rSortD X.K) := by
  intro pins s τ H vs us Q I r h
  obtain ⟨α, enc, a, Z, rfl, hA, hd, hal, hk, hdp, q⟩ := h
  obtain ⟨its, rv, hl, hz⟩ := I.list hA
  obtain ⟨u, rfl, ru⟩ := vals1 r
  obtain rfl : u = Value.ref a := ru
  rw [List.length_map] at hz
  have e := each_of_vals rv
  have er : PySem.W.EachIs (fun v z => ∃ as, Reads s.heap v (enc z.2) as) its Z := (PySem.W.each_mem e).mono fun v z h => Dp.reads I (enc z.2) z.1 v (hd z h.2) h.1
  refine PySem.W.sorted_data (enc := fun z : V × α => enc z.2) hl.isList e er hal hk hz (fun z hm => ?_) (fun out ho eo => ?_)
  · have := hdp z hm
    omega
  · obtain ⟨n, hn⟩ := sortedAll_at s.heap its out.toArray
    have hs : s.heap.objs.size ≤ s.heap.objs.size + 1 := Nat.le_succ _
    refine ⟨.ref (s.heap.objs.size + 1), upd H (s.heap.objs.size + 1) (.lst ((Z.mergeSort (PySem.W.dataLe false fun z => enc z.2)).map (·.1))), I.laid (t' := s.toks) (fun b o g => sortedAll_old g) hs ⟨?_, out, n, vals_of_each eo, hn⟩, rfl, q _ (I.hok.fresh hs)⟩
    rw [List.length_map, List.length_mergeSort]
    exact hz
theorem cr_sortDK {K : PySem.W.Frag} (hu : X.A.units + 64 < cLine) (h : X.K = K := by rfl) : CallR X (.builtin "sorted") (rSortD K) := h ▸ cr_sortD hu
end
/-! ### triples: a text, a number, a start -/
abbrev E3 := Str × Int × Int
def lex3 (p q : E3) : Prop := p.1.cps.toList < q.1.cps.toList ∨ (p.1 = q.1 ∧ (p.2.1 < q.2.1 ∨ (p.2.1 = q.2.1 ∧ p.2.2 < q.2.2)))
instance (p q : E3) : Decidable (lex3 p q) := inferInstanceAs (Decidable (_ ∨ _))
def le3 (p q : E3) : Bool := !decide (lex3 q p)
def eFlat (p : E3) : PyData := .tuple [.str p.1, .int p.2.1, .int p.2.2]
def eNest (p : E3) : PyData := .tuple [.str p.1, .tuple [.int p.2.1, .int p.2.2]]
theorem str_ext {x y : Str} (h : x.cps.toList = y.cps.toList) : x = y := by
  obtain ⟨a⟩ := x
  obtain ⟨b⟩ := y
  have : a = b := Array.toList_inj.mp h
  rw [this]
theorem lex3_irrefl (p : E3) : ¬ lex3 p p := by
  rintro (h | ⟨_, h | ⟨_, h⟩⟩)
  · exact List.lt_irrefl _ h
  · omega
  · omega
theorem lex3_tr {p q r : E3} (h : lex3 p q) (h2 : lex3 q r) : lex3 p r := by
  rcases h with h | ⟨e, h⟩ <;> rcases h2 with h2 | ⟨e2, h2⟩
  · exact .inl (List.lt_trans h h2)
  · exact .inl (e2 ▸ h)
  · exact .inl (by rw [e]; exact h2)
  · refine .inr ⟨e.trans e2, ?_⟩
    rcases h with h | ⟨f, h⟩ <;> rcases h2 with h2 | ⟨f2, h2⟩
    · exact .inl (by omega)
    · exact .inl (by omega)
    · exact .inl (by omega)
    · exact .inr ⟨by omega, by omega⟩
theorem lex3_tri {p q : E3} (h : ¬ lex3 p q) (h2 : ¬ lex3 q p) : p = q := by
  have a1 : p.1.cps.toList ≤ q.1.cps.toList := List.not_lt.mp fun z => h2 (.inl z)
  have a2 : q.1.cps.toList ≤ p.1.cps.toList := List.not_lt.mp fun z => h (.inl z)
  have a : p.1 = q.1 := str_ext (List.le_antisymm a1 a2)
  have b : p.2.1 = q.2.1 := by
    rcases Int.lt_trichotomy p.2.1 q.2.1 with z | z | z
    · exact absurd (.inr ⟨a, .inl z⟩) h
    · exact z
    · exact absurd (.inr ⟨a.symm, .inl z⟩) h2
  have c : p.2.2 = q.2.2 := by
    rcases Int.lt_trichotomy p.2.2 q.2.2 with z | z | z
    · exact absurd (.inr ⟨a, .inr ⟨b, z⟩⟩) h
    · exact z
    · exact absurd (.inr ⟨a.symm, .inr ⟨b.symm, z⟩⟩) h2
  obtain ⟨x, y, z⟩ := p
  obtain ⟨x', y', z'⟩ := q
  simp at a b c
  rw [a, b, c]
theorem le3_tr (p q r : E3) (h : le3 p q = true) (h2 : le3 q r = true) : le3 p r = true := by
  unfold le3 at *
  simp only [Bool.not_eq_true', decide_eq_false_iff_not] at *
  intro z
  by_cases c : lex3 p q
  · exact h2 (lex3_tr z c)
  · have := lex3_tri c h
    subst this
    exact h2 z
theorem le3_tot (p q : E3) : (le3 p q || le3 q p) = true := by
  unfold le3
  by_cases c : lex3 q p
  · have d : ¬ lex3 p q := fun z => lex3_irrefl _ (lex3_tr c z)
    rw [decide_eq_true c, decide_eq_false d]
    rfl
  · rw [decide_eq_false c]
    rfl
theorem eqv_str (x y : Str) : PyData.eqv (.str x) (.str y) = decide (x = y) := by
  by_cases h : x = y
  · simp [PyData.eqv, h]
  · simp [PyData.eqv, h]
theorem eqv_int (x y : Int) : PyData.eqv (.int x) (.int y) = decide (x = y) := by
  by_cases h : x = y
  · simp [PyData.eqv, h]
  · simp [PyData.eqv, h]
theorem flat_lt (p q : E3) : PySem.W.dataLt (eFlat p) (eFlat q) = decide (lex3 p q) := by
  unfold eFlat
  rw [PySem.W.dataLt_tuple, PySem.W.dataLt_cons (by simp [PySem.W.alike]), PySem.W.dataLt_cons (by simp [PySem.W.alike]), PySem.W.dataLt_cons (by simp [PySem.W.alike])]
  have e : PyProof.Rows.lexLt itemOrd (PySem.W.keyToksAll []) (PySem.W.keyToksAll []) = false := lex_irrefl _
  rw [e, eqv_str, eqv_int, eqv_int, PySem.W.dataLt_str, PySem.W.dataLt_int, PySem.W.dataLt_int]
  unfold lex3
  by_cases a : p.1 = q.1
  · have na : ¬ p.1.cps.toList < q.1.cps.toList := by rw [a]; exact List.lt_irrefl _
    by_cases b : p.2.1 = q.2.1
    · by_cases c : p.2.2 = q.2.2
      · simp [a, b, c]
      · rw [decide_eq_true a, decide_eq_true b, decide_eq_false c]
        show decide (p.2.2 < q.2.2) = _
        exact decide_eq_decide.mpr ⟨fun h => .inr ⟨a, .inr ⟨b, h⟩⟩, fun h => h.elim (fun h => absurd h na) fun h => h.2.elim (fun h => by omega) fun h => h.2⟩
    · rw [decide_eq_true a, decide_eq_false b]
      show decide (p.2.1 < q.2.1) = _
      exact decide_eq_decide.mpr ⟨fun h => .inr ⟨a, .inl h⟩, fun h => h.elim (fun h => absurd h na) fun h => h.2.elim id fun h => absurd h.1 b⟩
  · simp [a]
theorem nest_lt (p q : E3) : PySem.W.dataLt (eNest p) (eNest q) = decide (lex3 p q) := by
  unfold eNest
  rw [PySem.W.dataLt_pair (by simp [PySem.W.alike]) (by simp [PySem.W.alike, PySem.W.alikeAll]), PySem.W.dataLt_ii, PySem.W.dataLt_str, eqv_str]
  have e2 : PyData.eqv (.tuple [.int p.2.1, .int p.2.2]) (.tuple [.int q.2.1, .int q.2.2]) = decide (p.2 = q.2) := by
    obtain ⟨x, y, z⟩ := p
    obtain ⟨x', y', z'⟩ := q
    by_cases b : y = y' <;> by_cases c : z = z' <;> simp [PyData.eqv, PyData.eqvAll, b, c]
  rw [e2]
  unfold lex3
  by_cases a : p.1 = q.1
  · have na : ¬ p.1.cps.toList < q.1.cps.toList := by rw [a]; exact List.lt_irrefl _
    by_cases b : p.2 = q.2
    · simp [a, b]
    · rw [decide_eq_true a, decide_eq_false b]
      show decide (p.2.1 < q.2.1 ∨ (p.2.1 = q.2.1 ∧ p.2.2 < q.2.2)) = _
      exact decide_eq_decide.mpr ⟨fun h => .inr ⟨a, h⟩, fun h => h.elim (fun h => absurd h na) fun h => h.2⟩
  · simp [a]
theorem flat_le {β : Type} (f : β → E3) : PySem.W.dataLe false (fun b => eFlat (f b)) = fun p q => le3 (f p) (f q) := by
  funext p q
  show (!PySem.W.dataLt (eFlat (f q)) (eFlat (f p))) = _
  rw [flat_lt]
  rfl
theorem nest_le {β : Type} (f : β → E3) : PySem.W.dataLe false (fun b => eNest (f b)) = fun p q => le3 (f p) (f q) := by
  funext p q
  show (!PySem.W.dataLt (eNest (f q)) (eNest (f p))) = _
  rw [nest_lt]
  rfl
theorem flat_alike {β : Type} (f : β → E3) (bs : List β) : PySem.W.AllAlike (bs.map fun b => eFlat (f b)) := PySem.W.AllAlike.of fun b b' => by simp [eFlat, PySem.W.alike, PySem.W.alikeAll]
theorem nest_alike {β : Type} (f : β → E3) (bs : List β) : PySem.W.AllAlike (bs.map fun b => eNest (f b)) := PySem.W.AllAlike.of fun b b' => by simp [eNest, PySem.W.alike, PySem.W.alikeAll]
theorem flat_able {β : Type} (f : β → E3) (bs : List β) : PySem.W.Sortable (bs.map fun b => eFlat (f b)) := PySem.W.Sortable.tuples fun b => ⟨_, _, rfl⟩
theorem nest_able {β : Type} (f : β → E3) (bs : List β) : PySem.W.Sortable (bs.map fun b => eNest (f b)) := PySem.W.Sortable.tuples fun b => ⟨_, _, rfl⟩
theorem flat_deep (p : E3) : (eFlat p).depth ≤ 60 := by
  show max 0 (max 0 (max 0 0)) + 1 ≤ 60
  decide
theorem nest_deep (p : E3) : (eNest p).depth ≤ 60 := by
  show max 0 (max (max 0 (max 0 0) + 1) 0) + 1 ≤ 60
  decide
/-- sorted without anything twice: one list alone -/
theorem sorted3_uniq {xs ys : List E3} (hp : xs.Perm ys) (h1 : xs.Pairwise (fun p q => le3 p q = true)) (h2 : ys.Pairwise (fun p q => le3 p q = true)) : xs = ys := by
  refine hp.eq_of_pairwise (fun p q _ _ a b => ?_) h1 h2
  unfold le3 at a b
  simp only [Bool.not_eq_true', decide_eq_false_iff_not] at a b
  exact lex3_tri b a
theorem sort3_pw (xs : List E3) : (xs.mergeSort le3).Pairwise (fun p q => le3 p q = true) := List.pairwise_mergeSort (fun p q r => le3_tr p q r) (fun p q => le3_tot p q) xs
theorem sort3_map {β : Type} (f : β → E3) (bs : List β) : (bs.mergeSort fun p q => le3 (f p) (f q)).map f = (bs.map f).mergeSort le3 := by
  refine sorted3_uniq (((List.mergeSort_perm _ _).map f).trans (List.mergeSort_perm _ _).symm) ?_ (sort3_pw _)
  rw [List.pairwise_map]
  exact List.pairwise_mergeSort (le := fun p q => le3 (f p) (f q)) (fun p q r => le3_tr (f p) (f q) (f r)) (fun p q => le3_tot (f p) (f q)) bs
end SH
set_option Elab.async false
set_option linter.all false
set_option maxRecDepth 100000
set_option maxHeartbeats 4000000
/-! sets of numbers and texts: made, walked, sorted -/
namespace SH
open PySem PySem.Spec PyProof.Rows L2
def keyM (e : Int × Value) : Key := match e.2 with | .int k _ => .inl k | .str x _ => .inr x | _ => .inl 0
def GoodM (w : World) (e : Int × Value) : Prop := ∃ k : Key, RelV (kV k) e.2 ∧ e.1 = keyH w k
theorem keyM_of {h : Int} {k : Key} {u : Value} (r : RelV (kV k) u) : keyM (h, u) = k := by
  cases k with
  | inl i =>
    obtain ⟨t, rfl⟩ := r
    rfl
  | inr x =>
    obtain ⟨t, rfl⟩ := r
    rfl
/-- the set of keys at a: S its members, n their number; its table rises and can be walked -/
def SetM (w : World) (h : Heap) (a : Addr) (S : Key → Bool) (n : Nat) : Prop :=
  ∃ o es ep t, h.get? a = some o ∧ o.ExactSet ∧ o.data = .set es ep t ∧ (∀ e ∈ es.toList, GoodM w e) ∧ (es.toList.map keyM).Nodup ∧ (∀ k, S k = true ↔ k ∈ es.toList.map keyM) ∧
    es.size < scanBound ∧ t.fits es.size = true ∧ es.size = n ∧ Ris t.place.toList ∧ (w.params.followText "set-order" = true ∨ t.led = true)
section
variable {P : Program} {w : World} {h h' : Heap} {a : Addr} {S : Key → Bool} {n : Nat}
theorem SetM.at (R : SetM w h a S n) (k : ∀ o, h.get? a = some o → h'.get? a = some o) : SetM w h' a S n := by
  obtain ⟨o, es, ep, t, ho, r⟩ := R
  exact ⟨o, es, ep, t, k o ho, r⟩
theorem SetM.lt (R : SetM w h a S n) : a < h.objs.size := by
  obtain ⟨o, es, ep, t, ho, r⟩ := R
  exact Heap.lt_size ho
theorem goodM_elems {l : List (Int × Value)} (g : ∀ e ∈ l, GoodM w e) : ElemsOf (mixKind P w) l := fun e he => by
  obtain ⟨k, h1, h2⟩ := g e he
  exact ⟨⟨k, kV_is h1, h2⟩, key_scan h1⟩
theorem goodM_is {e : Int × Value} (g : GoodM w e) (k : Key) : (mixKind P w).is k e.2 = true ↔ keyM e = k := by
  obtain ⟨k0, h1, _⟩ := g
  have e0 : keyM e = k0 := by
    obtain ⟨x, u⟩ := e
    exact keyM_of h1
  rw [e0]
  constructor
  · intro h
    exact (mixKind P w).inj _ _ _ (kV_is h1) h
  · rintro rfl
    exact kV_is h1
theorem goodM_mem {l : List (Int × Value)} (g : ∀ e ∈ l, GoodM w e) (k : Key) : k ∈ l.map keyM ↔ ∃ e ∈ l, (mixKind P w).is k e.2 = true := by
  rw [List.mem_map]
  constructor
  · rintro ⟨e, he, q⟩
    exact ⟨e, he, (goodM_is (g e he) k).2 q⟩
  · rintro ⟨e, he, q⟩
    exact ⟨e, he, (goodM_is (g e he) k).1 q⟩
theorem SetM.setOf (R : SetM w h a S n) : h.SetOf (mixKind P w) a S n := by
  obtain ⟨o, es, ep, t, ho, hx, hd, g, nd, hm, hb, hf, hn, _⟩ := R
  exact ⟨o, es, ep, t, ho, hx, hd, goodM_elems g, fun k => (hm k).trans (goodM_mem g k), hb, hf, hn⟩
end
section
variable {P : Program} {w : World} {A : Around} {E : Value → Shared → Prop} {s : Shared} {a : Addr} {S : Key → Bool} {n : Nat}
theorem setM_add_tail {g : Bool → Sem Unit} (hg : ∀ (b : Bool) (s₁ : Shared) (Q' : Unit → Shared → Prop), Q' () s₁ → wpAny (model P w) A (g b) Q' E s₁)
    {o : Obj} {es : Array (Int × Value)} {ep : Nat} {t : SetTable} (ho : s.heap.get? a = some o) (hex : o.ExactSet) (hd : o.data = .set es ep t)
    {es1 : Array (Int × Value)} {t2 : SetTable} {S' : Key → Bool} (g1 : ∀ e ∈ es1.toList, GoodM w e) (nd1 : (es1.toList.map keyM).Nodup) (m1 : ∀ k, S' k = true ↔ k ∈ es1.toList.map keyM)
    (hb1 : es1.size < scanBound) (hf2 : t2.fits es1.size = true) (hr : Ris t2.place.toList) (hl : w.params.followText "set-order" = true ∨ t2.led = true) {wasDummy : Bool} {R : Option Bool → Shared → Prop}
    (hR : ∀ h', Heap.SameBut a s.heap h' → SetM w h' a S' es1.size → R (some true) { s with heap := h' }) :
    wpAny (model P w) A (do
        storeSet a es1 t2
        if (!wasDummy && t2.tooFull) = true then do
            g (relayAll t2 es1 (SetTable.grown es1.size)).2.2
            storeSet a (relayAll t2 es1 (SetTable.grown es1.size)).1 (relayAll t2 es1 (SetTable.grown es1.size)).2.1
            pure (some true)
          else pure (some true)) R E s := by
  refine wpAny_bind (wpAny_storeSet_of ho hd ?_ (fits_of_scanBound hb1))
  have ho1 := store_at (es' := es1) (t' := t2) ho hd
  have sb1 := Heap.SameBut.update s.heap a (Obj.putSet es1 t2)
  split
  · have pm := relayAll_perm t2 es1 (SetTable.grown es1.size)
    have hf3 := relayAll_fits t2 es1 (SetTable.grown es1.size)
    have hr3 := relayAll_ris t2 es1 (SetTable.grown es1.size)
    have hl3 := relayAll_led t2 es1 (SetTable.grown es1.size)
    generalize relayAll t2 es1 (SetTable.grown es1.size) = Z at pm hf3 hr3 hl3 ⊢
    obtain ⟨es2, t3, gave⟩ := Z
    dsimp only at pm hf3 hr3 hl3 ⊢
    have hsz : es2.size = es1.size := by rw [← Array.length_toList, pm.length_eq, Array.length_toList]
    have hb2 : es2.size < scanBound := by rw [hsz]; exact hb1
    refine wpAny_bind (hg _ _ _ ?_)
    refine wpAny_bind (wpAny_storeSet_of ho1 rfl ?_ (fits_of_scanBound hb2))
    have ho2 := store_at (es' := es2) (t' := t3) ho1 rfl
    refine wpAny_pure (hR _ (sb1.trans (Heap.SameBut.update _ a _)) ?_)
    exact ⟨_, es2, _, t3, ho2, hex, rfl, fun e he => g1 e (pm.mem_iff.mp he), (pm.map keyM).nodup_iff.mpr nd1, fun k => (m1 k).trans (pm.map keyM).mem_iff.symm, hb2, hf3, hsz, hr3,
      hl.imp id fun z => by rw [hl3]; exact z⟩
  · exact wpAny_pure (hR _ sb1 ⟨_, es1, _, t2, ho1, hex, rfl, g1, nd1, m1, hb1, hf2, rfl, hr, hl⟩)
theorem setM_add_hashed {k : Key} {u : Value} {Q : Bool → Shared → Prop} (ru : RelV (kV k) u) (R : SetM w s.heap a S n) (room : n + 1 < scanBound)
    (hQ : ∀ h', Heap.SameBut a s.heap h' → SetM w h' a (fun j => S j || decide (j = k)) (if S k = true then n else n + 1) → Q (!S k) { s with heap := h' }) :
    wpAny (model P w) A (setAddHashed a u ((mixKind P w).hash k)) Q E s := by
  obtain ⟨o, es, ep, t, ho, hex, hd, g, nd, hm, hb, hf, hn, hr, hl⟩ := R
  have hkey : (mixKind P w).is k u = true := kV_is ru
  have hsc : u.scannable = true := key_scan ru
  have hel : ElemsOf (mixKind P w) es.toList := goodM_elems g
  unfold setAddHashed setAddHashedIn
  refine wpAny_holding (wpAny_bind (wpAny_setState_of ho hd hf ?_))
  dsimp only
  rw [byScan_of hsc hb hel]
  simp only [↓reduceIte]
  unfold setAddByScan
  refine wpAny_bind ?_
  refine wpAny_bind (wpAny_rule ?_)
  refine wpAny_bind (wpAny_setScan_of hkey ho hd hf hel ?_)
  cases hfi : List.findIdx? (fun e => (mixKind P w).is k e.2) es.toList with
  | some j =>
    dsimp only
    obtain ⟨hj, pj, _⟩ := List.findIdx?_eq_some_iff_getElem.mp hfi
    have hSk : S k = true := (hm k).2 ((goodM_mem (P := P) (w := w) g k).2 ⟨es.toList[j], List.getElem_mem hj, pj⟩)
    refine wpAny_pure (wpAny_pure ?_)
    have q := hQ s.heap (Heap.SameBut.refl a s.heap) ⟨o, es, ep, t, ho, hex, hd, g, nd, fun i => by
      rw [Bool.or_eq_true, decide_eq_true_eq, ← hm i]
      exact ⟨fun z => z.elim id (fun e => e ▸ hSk), .inl⟩, hb, hf, by rw [if_pos hSk]; exact hn, hr, hl⟩
    rw [hSk] at q
    exact q
  | none =>
    dsimp only
    have hnk : k ∉ es.toList.map keyM := fun z => by
      obtain ⟨e, he, q⟩ := (goodM_mem (P := P) (w := w) g k).1 z
      have c := List.findIdx?_eq_none_iff.mp hfi e he
      rw [q] at c
      cases c
    have hSk : S k = false := by
      cases q : S k with
      | false => rfl
      | true => exact absurd ((hm k).1 q) hnk
    have hgw : ∀ (b : Bool) {s₁ : Shared} {Q' : Unit → Shared → Prop}, Q' () s₁ → wpAny (model P w) A (match b with | true => rule "set.scan.the-table-gave-way" | false => pure ()) Q' E s₁ :=
      fun b s₁ Q' q => by cases b <;> first | exact wpAny_pure q | exact wpAny_rule q
    have pm := layNew_perm t es ((mixKind P w).hash k) u
    have hf1 := layNew_fits t es ((mixKind P w).hash k) u
    have hr1 := layNew_ris t es ((mixKind P w).hash k) u hr
    have hl1 := layNew_led t es ((mixKind P w).hash k) u
    generalize layNew t es ((mixKind P w).hash k) u = Z at pm hf1 hr1 hl1 ⊢
    obtain ⟨es1, t1, wasDummy, gave⟩ := Z
    dsimp only at pm hf1 hr1 hl1 ⊢
    rw [Array.toList_push] at pm
    have pc : es1.toList.Perm (((mixKind P w).hash k, u) :: es.toList) := pm.trans (List.perm_append_singleton _ _)
    have pk : (es1.toList.map keyM).Perm (k :: es.toList.map keyM) := by
      have q := pc.map keyM
      rw [List.map_cons, keyM_of ru] at q
      exact q
    have g1 : ∀ e ∈ es1.toList, GoodM w e := fun e he => by
      rcases List.mem_cons.mp (pc.mem_iff.mp he) with z | z
      · rw [z]; exact ⟨k, ru, rfl⟩
      · exact g e z
    have nd1 : (es1.toList.map keyM).Nodup := pk.nodup_iff.mpr (List.nodup_cons.mpr ⟨hnk, nd⟩)
    have m1 : ∀ i, (S i || decide (i = k)) = true ↔ i ∈ es1.toList.map keyM := fun i => by
      rw [Bool.or_eq_true, decide_eq_true_eq, hm i, pk.mem_iff, List.mem_cons]
      exact Or.comm
    have hsz : es1.size = n + 1 := by rw [← Array.length_toList, pc.length_eq, List.length_cons, Array.length_toList, hn]
    have hb1 : es1.size < scanBound := by rw [hsz]; exact room
    have hled : w.params.followText "set-order" = true ∨ t1.led = true := hl.imp id fun z => by rw [hl1]; exact z
    have fin : ∀ h', Heap.SameBut a s.heap h' → SetM w h' a (fun j => S j || decide (j = k)) es1.size → Q true { s with heap := h' } := fun h' sb r => by
      have q := hQ h' sb
      rw [hSk] at q
      rw [hsz] at r
      exact q r
    refine wpAny_bind (hgw _ ?_)
    split
    · refine wpAny_bind ?_
      rw [hashByValue_scannable 8 hsc]
      refine wpAny_pure ?_
      refine setM_add_tail ?_ ho hex hd g1 nd1 m1 hb1 ?_ ?_ ?_ ?_
      · intro b s₁ Q' q; cases b <;> first | exact wpAny_pure q | exact wpAny_rule q
      · first | (split <;> first | exact hf1 | exact SetTable.fits_plain_off hf1) | exact hf1
      · first | (split <;> exact hr1) | exact hr1
      · first | (split <;> exact hled) | exact hled
      · intro h' sb r; dsimp only; exact wpAny_pure (fin h' sb r)
    · refine wpAny_bind (wpAny_pure ?_)
      simp only [↓reduceIte]
      refine setM_add_tail ?_ ho hex hd g1 nd1 m1 hb1 hf1 hr1 hled ?_
      · intro b s₁ Q' q; cases b <;> first | exact wpAny_pure q | exact wpAny_rule q
      · intro h' sb r; dsimp only; exact wpAny_pure (fin h' sb r)
/-- found.add(k) -/
theorem setM_add {k : Key} {u : Value} {Q : Value → Shared → Prop} (ru : RelV (kV k) u) (R : SetM w s.heap a S n) (room : n + 1 < scanBound)
    (hQ : ∀ h', Heap.SameBut a s.heap h' → SetM w h' a (fun j => S j || decide (j = k)) (if S k = true then n else n + 1) → Q .none { s with heap := h', toks := s.toks + 1 }) :
    wpAny (model P w) A (call (.builtin "set.add") [.ref a, u]) Q E s := by
  have hS : s.heap.SetOf (mixKind P w) a S n := R.setOf
  refine wpAny_call_entry F.slot_set_add hS.typeIs F.entry_set_add ?_ (F.args_set_add_2 _ _)
  unfold Builtin.«set.add» Builtin.Frozenset.oneOther
  simp only [List.isEmpty_nil, bind_assoc]
  unfold Builtin.Frozenset.addrOf setAdd
  refine wpAny_bind (wpAny_pure ?_)
  try dsimp only
  refine wpAny_bind (wpAny_pure ?_)
  try dsimp only
  refine wpAny_bind ?_
  refine wpAny_holding ?_
  refine wpAny_bind ((mixKind P w).pyHash (kV_is ru) ?_)
  refine setM_add_hashed (s := { s with toks := s.toks + 1 }) ru R room fun h' sb r => ?_
  show wpAny _ _ (ret Value.none) _ _ _
  exact wpAny_pure ⟨_, rfl, hQ h' sb r⟩
theorem setM_fresh {h : Heap} (w : World) : SetM w (h.push { cls := .type "set", dict := none, data := .set #[] 0 (.fresh 0 0 (!w.params.followText "set-order")) }) h.objs.size (fun _ => false) 0 :=
  ⟨_, #[], 0, _, Heap.get?_push_size _ rfl, ⟨rfl, rfl, rfl⟩, rfl, (fun e he => by simp at he), (by simp), (fun k => by simp), (by decide), (by rfl), rfl, List.Pairwise.nil, by
    show _ ∨ (!w.params.followText "set-order") = true
    cases w.params.followText "set-order"
    · exact .inr rfl
    · exact .inl rfl⟩
end
/-- the set of keys at a, tracked -/
def SetMO (w : World) (a : Addr) (S : Key → Bool) (n : Nat) : HO := .ext fun h => SetM w h a S n
theorem setMO_new {w : World} {P : Program} {H : Hp} {h : Heap} {a : Addr} {S : Key → Bool} {n : Nat} (R : SetM w h a S n) : ObjOk P w H h a (SetMO w a S n) := by
  have ⟨o, _, _, _, ho, _⟩ := R
  exact ⟨R, ⟨o, ho⟩, fun h1 h2 p k => SetM.at p k⟩
section
variable {X : Cx}
theorem setMO_get {pins : List (Addr × Obj)} {σ : L2.St} {H : Hp} {s : Shared} {a : Addr} {S : Key → Bool} {n : Nat} (I : Inv X pins σ H s) (ha : H a = some (SetMO X.w a S n)) : SetM X.w s.heap a S n := (I.hok a _ ha).1
theorem addM_ok {pins : List (Addr × Obj)} {σ : L2.St} {H : Hp} {s : Shared} {E : Value → Shared → Prop} {D : Addr} {S : Key → Bool} {n : Nat} {k : Key} {u : Value} {Q : Value → Shared → Prop} (ru : RelV (kV k) u) (I : Inv X pins σ H s) (hD : H D = some (SetMO X.w D S n)) (room : n + 1 < scanBound)
    (h : ∀ s', Inv X pins σ (upd H D (SetMO X.w D (fun j => S j || decide (j = k)) (if S k = true then n else n + 1))) s' → Q .none s') : wpAny (model X.prog X.w) X.A (call (.builtin "set.add") [.ref D, u]) Q E s := by
  have R := setMO_get I hD
  refine setM_add ru R room fun h' sb new => ?_
  have he : ∃ u, h'.get? D = some u := by
    have ⟨o, _, _, _, ho, _⟩ := new
    exact ⟨o, ho⟩
  exact h _ (I.write (e := D) (t' := s.toks + 1) (by rw [hD]; trivial) (.inl rfl) (fun b u hb hu => (sb.2 b hb).trans hu) he (setMO_new new))
/-! ### its members, in some order -/
theorem setM_out {w : World} {es : Array (Int × Value)} (g : ∀ e ∈ es.toList, GoodM w e) {out : List Value} (hp : out.Perm (es.toList.map (·.2))) : ∃ ks : List Key, Vals (ks.map kV) out ∧ ks.Perm (es.toList.map keyM) := by
  have key : ∀ v ∈ out, ∃ k : Key, RelV (kV k) v := fun v hv => by
    obtain ⟨e, he, q⟩ := List.mem_map.mp (hp.mem_iff.mp hv)
    obtain ⟨k, h1, _⟩ := g e he
    exact ⟨k, q ▸ h1⟩
  refine ⟨out.map fun v => keyM (0, v), ?_, ?_⟩
  · have go : ∀ l : List Value, (∀ v ∈ l, ∃ k : Key, RelV (kV k) v) → Vals ((l.map fun v => keyM (0, v)).map kV) l := by
      intro l
      induction l with
      | nil => exact fun _ => .nil
      | cons v r ih =>
        intro h
        obtain ⟨k, hk⟩ := h v (List.mem_cons_self ..)
        refine .cons ?_ (ih fun u hu => h u (List.mem_cons_of_mem _ hu))
        show RelV (kV (keyM (0, v))) v
        rw [keyM_of hk]
        exact hk
    exact go out key
  · have q := hp.map fun v => keyM (0, v)
    rw [List.map_map] at q
    exact q
theorem each_of_map {α : Type} (f : α → V) : ∀ {l : List α} {out : List Value}, Vals (l.map f) out → PySem.W.EachIs (fun v z => RelV (f z) v) out l
  | [], _, .nil => .nil
  | _ :: _, _, .cons r t => .cons r (each_of_map f t)
theorem map_of_each {α : Type} (f : α → V) : ∀ {l : List α} {out : List Value}, PySem.W.EachIs (fun v z => RelV (f z) v) out l → Vals (l.map f) out
  | _, _, .nil => .nil
  | _, _, .cons r t => .cons r (map_of_each f t)
/-- sorted(a set): a new list of the members by what they read as -/
def rSortM (w : World) : List V → Hp → VK → Prop := fun vs H Q => ∃ (α : Type) (enc : α → PyData) (val : α → Key) (a : Addr) (S : Key → Bool) (n : Nat), vs = [.ref a] ∧ H a = some (SetMO w a S n) ∧
  (∀ z, (enc z).depth ≤ 60 ∧ ∀ (h : Heap) (v : Value), RelV (kV (val z)) v → Reads h v (enc z) []) ∧ (∀ k, S k = true → ∃ z, val z = k) ∧ (∀ l : List α, PySem.W.AllAlike (l.map enc) ∧ PySem.W.Sortable (l.map enc)) ∧
  ∀ (l : List α) (p : Addr), (l.map val).Nodup → (∀ k, S k = true ↔ k ∈ l.map val) → l.length = n → H p = none → Q (.ref p) (upd H p (.lst ((l.mergeSort (PySem.W.dataLe false enc)).map fun z => kV (val z))))
theorem pick {α β : Type} (f : α → β) : ∀ ks : List β, (∀ k ∈ ks, ∃ z, f z = k) → ∃ l : List α, l.map f = ks
  | [], _ => ⟨[], rfl⟩
  | k :: r, h => by
    obtain ⟨z, hz⟩ := h k (List.mem_cons_self ..)
    obtain ⟨l, hl⟩ := pick f r fun k hk => h k (List.mem_cons_of_mem _ hk)
    exact ⟨z :: l, by rw [List.map_cons, hz, hl]⟩
theorem cr_sortM (hc : X.calm = true) (hu : X.A.units + 64 < cLine) : CallR X (.builtin "sorted") (rSortM X.w) := by
  intro pins s τ H vs us Q I r h
  obtain ⟨α, enc, val, a, S, n, rfl, hA, hd, hv, hal, q⟩ := h
  obtain ⟨u, rfl, ru⟩ := vals1 r
  obtain rfl : u = Value.ref a := ru
  obtain ⟨o, es, ep, t, ho, hex, hdt, g, nd, hm, hb, hf, hn, hr, hl⟩ := setMO_get I hA
  refine Calls.call_function_entry kind_sorted plain_sorted entry_sorted (args_sorted1 _) ?_
  unfold Builtin.«sorted»
  refine wpAny_bind (m := checkCount "sorted" 1 1 _) (wpAny_pure ?_)
  refine wpAny_bind (collect_set (A := X.A.in1) (I.ok.hd hc) ⟨o, ho, hex.1, hdt⟩ hf hb hr hl fun s1 out k1 hz g1 o1 pm => ?_)
  obtain ⟨ks, hks, pk⟩ := setM_out g pm
  obtain ⟨l, rfl⟩ := pick val ks fun k hk => hv k ((hm k).mpr (pk.mem_iff.mp hk))
  have hol : out.length = n := by rw [pm.length_eq, List.length_map, Array.length_toList]; exact hn
  have hln : l.length = n := by
    have := hks.length
    rw [List.length_map, List.length_map] at this
    exact this.trans hol
  have hsl : out.length ≤ sizeLine := by rw [hol, ← hn]; exact fits_of_scanBound hb
  rw [List.map_map] at hks
  have e := each_of_map _ hks
  refine wpAny_bind (wpAny_newList ?_ hsl)
  have hoL : (s1.heap.push (seqObj "list" out.toArray 0)).get? s1.heap.objs.size = some (seqObj "list" out.toArray 0) := Heap.get?_push_size _ rfl
  have er : PySem.W.EachIs (fun v z => ∃ as, Reads (s1.heap.push (seqObj "list" out.toArray 0)) v (enc z) as ∧ s1.heap.objs.size ∉ as) out l := e.mono fun v z r => ⟨[], (hd z).2 _ v r, by simp⟩
  refine wpAny_bind (wpAny_holding (PySem.W.list_sort_data (enc := enc) hoL e er (hal l).1 (hal l).2 (by rw [hln, ← hol]; exact hsl) (fun z hz' => ?_) (fun out2 ho2 eo => ?_)))
  · have := (hd z).1
    show X.A.in1.units + 1 + (enc z).depth < cLine
    have e2 : X.A.in1.units = X.A.units + 1 := rfl
    omega
  · obtain ⟨c, hcc⟩ := sortedHeap_at (vs := out) (out := out2.toArray) hoL
    have kk : ∀ b x, s1.heap.get? b = some x → (sortedHeap (s1.heap.push (seqObj "list" out.toArray 0)) s1.heap.objs.size out out2.toArray).get? b = some x := fun b x q1 => by
      have hlt := Heap.lt_size q1
      rw [sortedHeap_old (Nat.ne_of_lt hlt) (by rw [size_push']; exact Nat.lt_succ_of_lt hlt)]
      exact Heap.get?_push_of_some _ q1
    have rv := map_of_each _ eo
    have I1 : Inv X pins τ H s1 := I.call' (ch := []) o1 (Un.kept k1) (I.hok.kept k1) (by rw [g1]; exact I.bare) (fun _ z => nomatch z)
    have J : Inv X pins τ (upd H s1.heap.objs.size (.lst ((l.mergeSort (PySem.W.dataLe false enc)).map fun z => kV (val z)))) { s1 with heap := sortedHeap (s1.heap.push (seqObj "list" out.toArray 0)) s1.heap.objs.size out out2.toArray, toks := s1.toks } :=
      I1.laid (t' := s1.toks) kk (Nat.le_refl _) ⟨by rw [List.length_map, List.length_mergeSort, hln, ← hol]; exact hsl, out2, c, rv, hcc⟩
    refine wpAny_pure ⟨_, rfl, ?_⟩
    exact ⟨.ref s1.heap.objs.size, _, J, rfl, q l _ (by rw [pk.nodup_iff]; exact nd) (fun k => by rw [hm k, pk.mem_iff]) hln (I.hok.fresh hz)⟩
theorem nodup_of_map {α β : Type} (f : α → β) : ∀ {l : List α}, (l.map f).Nodup → l.Nodup
  | [], _ => List.nodup_nil
  | x :: r, h => by
    rw [List.map_cons, List.nodup_cons] at h
    exact List.nodup_cons.mpr ⟨fun m => h.1 (List.mem_map_of_mem m), nodup_of_map f h.2⟩
/-- sorted(a set of texts) -/
def rSortMS (w : World) : List V → Hp → VK → Prop := fun vs H Q => ∃ (a : Addr) (S : Key → Bool) (n : Nat), vs = [.ref a] ∧ H a = some (SetMO w a S n) ∧ (∀ k, S k = true → ∃ z : Str, k = .inr z) ∧
  ∀ (l : List Str) (p : Addr), l.Nodup → l.Pairwise (fun x y => x.cps.toList ≤ y.cps.toList) → (∀ z : Str, z ∈ l ↔ S (.inr z) = true) → l.length = n → H p = none → Q (.ref p) (upd H p (.lst (l.map V.str)))
theorem cr_sortMS (hc : X.calm = true) (hu : X.A.units + 64 < cLine) : CallR X (.builtin "sorted") (rSortMS X.w) := by
  intro pins s τ H vs us Q I r h
  obtain ⟨a, S, n, rfl, hA, hS, q⟩ := h
  have inj : ∀ x y : Str, (Sum.inr x : Key) = .inr y → x = y := fun x y e => Sum.inr.inj e
  refine cr_sortM hc hu pins s τ H _ us Q I r ⟨Str, PyData.str, fun z => .inr z, a, S, n, rfl, hA, fun z => ⟨by show 0 ≤ 60; decide, fun h v r => ?_⟩, fun k hk => ?_, fun l => ⟨PySem.W.AllAlike.of fun b b' => by simp [PySem.W.alike], ?_⟩, fun l p nd hm hn np => ?_⟩
  · obtain ⟨t, rfl⟩ := r
    exact .str z t
  · obtain ⟨z, e⟩ := hS k hk
    exact ⟨z, e.symm⟩
  · exact PySem.W.Sortable.others fun b => ⟨by simp, fun xs => by simp⟩
  · have pm := List.mergeSort_perm l (PySem.W.dataLe false PyData.str)
    refine q (l.mergeSort (PySem.W.dataLe false PyData.str)) p ?_ ?_ (fun z => ?_) (by rw [pm.length_eq, hn]) np
    · rw [pm.nodup_iff]
      exact nodup_of_map _ nd
    · have e : PySem.W.dataLe false PyData.str = fun x y : Str => !decide (y.cps.toList < x.cps.toList) := by
        funext x y
        show (!PySem.W.dataLt (.str y) (.str x)) = _
        rw [PySem.W.dataLt_str]
      have hp := List.pairwise_mergeSort (le := fun x y : Str => !decide (y.cps.toList < x.cps.toList)) (fun x y z a b => ?_) (fun x y => ?_) l
      · rw [e]
        refine hp.imp fun {x y} a => ?_
        exact List.not_lt.mp fun z => by rw [decide_eq_true z] at a; cases a
      · have a' : x.cps.toList ≤ y.cps.toList := List.not_lt.mp fun z => by rw [decide_eq_true z] at a; cases a
        have b' : y.cps.toList ≤ z.cps.toList := List.not_lt.mp fun z => by rw [decide_eq_true z] at b; cases b
        rw [decide_eq_false (List.not_lt.mpr (List.le_trans a' b'))]
        rfl
      · rcases List.le_total x.cps.toList y.cps.toList with a | a
        · rw [decide_eq_false (List.not_lt.mpr a)]
          rfl
        · rw [decide_eq_false (List.not_lt.mpr a), Bool.not_false, Bool.or_true]
    · rw [pm.mem_iff, hm (.inr z)]
      exact ⟨fun m => List.mem_map_of_mem m, fun m => by obtain ⟨y, hy, e⟩ := List.mem_map.mp m; exact inj _ _ e ▸ hy⟩
/-! ### sorted(texts, key=len) -/
theorem sorted_len {l : Addr} {zs : List Str} {Q : Value → Shared → Prop} {pins : List (Addr × Obj)} {τ : L2.St} {H : Hp} {s : Shared} (I : Inv X pins τ H s) (hl : SqL X.K H l (zs.map V.str)) (hu : X.A.units + 64 < cLine) (hz : ∀ z ∈ zs, z.length ≤ sizeLine)
    (hQ : ∀ (p : Addr) (s' : Shared), H p = none → Inv X pins τ (upd H p (.lst ((zs.mergeSort fun x y => decide (x.length ≤ y.length)).map V.str))) s' → Q (.ref p) s') :
    wpAny (model X.prog X.w) X.A (call (.builtin "sorted") [.ref l] [(Str.ofString "key", .builtin "len")]) Q X.xe s := by
  obtain ⟨its, rv, hl, hZ⟩ := I.list hl
  have e := each_of_map V.str rv
  rw [List.length_map] at hZ
  refine PySem.W.sorted_key_data (b := false) (R := fun v z => RelV (V.str z) v) (fun z : Str => PyData.int z.length) hl.isList e (PySem.W.AllAlike.of fun b b' => by simp [PySem.W.alike]) (PySem.W.Sortable.others fun b => ⟨by simp, fun xs => by simp⟩) hZ
    (fun x hx => by show X.A.units + 2 + 0 < cLine; omega) (PyProof.Rows.ksk_s1 _ _) (fun _ => PyProof.Rows.ksk_l1 _ _) (fun x => PyProof.Rows.ksk_t4 "len" x) (fun v x hv hx h tk k => ?_) (fun out c h' tk k fr hp hlen eo => ?_)
  · obtain ⟨t, rfl⟩ := hv
    have hl63 := line63
    have hzx := hz x hx
    exact len_str (by omega) ⟨h, _, rfl, fun _ _ e => e, .int _ _⟩
  · have e2 : PySem.W.dataLe false (fun z : Str => PyData.int z.length) = fun x y : Str => decide (x.length ≤ y.length) := by
      funext x y
      show (!PySem.W.dataLt (.int y.length) (.int x.length)) = _
      rw [PySem.W.dataLt_int]
      by_cases c : x.length ≤ y.length
      · rw [decide_eq_true c, decide_eq_false (by omega)]
        rfl
      · rw [decide_eq_false c, decide_eq_true (by omega)]
        rfl
    rw [e2] at eo
    have hs : s.heap.objs.size ≤ s.heap.objs.size + 1 := Nat.le_succ _
    exact hQ _ _ (I.hok.fresh hs) (I.laid (t' := tk) k hs ⟨by rw [List.length_map, List.length_mergeSort]; exact hZ, out, c, map_of_each V.str eo, hp⟩)
/-- sorted(x, key=len), x a list of texts -/
def rSortLen (K : PySem.W.Frag) : List V → Hp → VK → Prop := fun vs H Q => ∃ (a : Addr) (zs : List Str), vs = [.ref a] ∧ SqL K H a (zs.map V.str) ∧ (∀ z ∈ zs, z.length ≤ sizeLine) ∧
  ∀ p : Addr, H p = none → Q (.ref p) (upd H p (.lst ((zs.mergeSort fun x y => decide (x.length ≤ y.length)).map V.str)))
def tSLen (r : List V → Hp → VK → Prop) (t : TA) : TE := fun σ H Q => t σ H fun vs H1 => r vs H1 Q
theorem pe_sortLenK {K : PySem.W.Frag} {e : Expr} {t : TA} {p kp pos : Pos} (hu : X.A.units + 64 < cLine) (hg : Gl X "sorted") (hm : X.mg "sorted" = none) (hgl : Gl X "len") (hml : X.mg "len" = none) (ha : PA X [e] t) {kpos : Pos}
    (he : backTo pos (starEach [e] X.env) = [(false, eval e X.env)] := by rfl) (hK : X.K = K := by rfl) :
    PE X (.Call (.Name "sorted" p) [e] [⟨some "key", .Name "len" kp, kpos⟩] pos) (tSLen (rSortLen K) t) := by
  subst hK
  refine ⟨fun pins s σ H Q I h => ?_⟩
  refine wpAny_Call_Name_kw (ld_blt I hg hm (u := .builtin "sorted") (by decide +kernel) ?_ (by decide) (by decide))
  refine PyProof.Rows.callWith_kw (thn (ha.run pos pins s σ H _ I h) fun us s1 ⟨vs, H1, I1, r1, q1⟩ => ?_) he (by rw [he]; rfl) (by rfl) (by rfl)
  obtain ⟨a, zs, rfl, hA, hz, q⟩ := q1
  obtain ⟨u, rfl, ru⟩ := vals1 r1
  obtain rfl : u = Value.ref a := ru
  show wpAny _ _ (evalAll ((do let v ← eval (.Name "len" kp) X.env; standAt pos; pure v) :: [])) _ _ s1
  refine wpAny_evalAll_cons (wpAny_bind (ld_blt I1 hgl hml (u := .builtin "len") (by decide +kernel) ?_ (by decide) (by decide)))
  refine wpAny_bind (wpAny_standAt (wpAny_pure (wpAny_evalAll_nil ?_)))
  exact sorted_len I1 hA hu hz fun p s2 np I2 => ⟨.ref p, _, I2, rfl, q p np⟩
end
end SH
set_option Elab.async false
set_option linter.all false
set_option maxRecDepth 100000
set_option maxHeartbeats 4000000
/-! comprehensions of any number of fors -/
namespace SH
open PySem PySem.Spec PyProof.Rows L2
/-- a turn's inner part: from slots and heap, what is wished of the heap behind it -/
abbrev TBd := L2.St → Hp → (Hp → Prop) → Prop
def BodyOk (X : Cx) (run : Sem PySem.Fin → Sem PySem.Fin) (bd : TBd) (vb : List Nat) : Prop :=
  ∀ (pins : List (Addr × Obj)) (s : Shared) (σ : L2.St) (H : Hp) (Nx : Hp → Prop) (c : Sem PySem.Fin) (Qc : PySem.Fin → Shared → Prop), Inv X pins σ H s → bd σ H Nx →
    (∀ s' H', Inv X pins (wipe σ vb) H' s' → Nx H' → wpAny (model X.prog X.w) X.A c Qc (fun _ _ => False) s') → wpAny (model X.prog X.w) X.A (run c) Qc (fun _ _ => False) s
/-- the turns of one for -/
def tTurns (J : It) (g : TG) (tt : TT) (vs : List Nat) (σw : L2.St) (bd : TBd) (Nx : Hp → Prop) (H0 : Hp) : Prop :=
  ∃ W : Nat → Nat → Hp → Prop, (∃ m, W 0 m H0) ∧ ∀ i m H, W i m H → (J.stop i H ∧ Nx H) ∨ (J.go i H ∧ ∃ Nx1 : Hp → Prop, (∀ H', Nx1 H' → ∃ m', m' < m ∧ W (i + 1) m' H') ∧
    ∀ x H', J.yld i H x H' → g x σw H' fun σ2 H2 => wipe σ2 vs = σw ∧ tt σ2 H2 fun b H3 => if b = true then bd σ2 H3 Nx1 else Nx1 H3)
/-- for tg in iter if ..: the inner part -/
def bFor (wi : TI) (g : TG) (tt : TT) (vs : List Nat) (bd : TBd) : TBd := fun σ H Nx => wi σ H fun J H1 => tTurns J g tt vs (wipe σ vs) bd Nx H1
/-- what a clause's turn runs -/
def clauseTurn (e : Expr) (k : Nat) (it acc : Value) (env : Env) (tg iter : Expr) (ifs : List Expr) (BODY : Sem PySem.Fin → Sem PySem.Fin) : Sem PySem.Fin := do
  standAt iter.pos
  match ← pyNext it with
  | none => pure (.done .next)
  | some v =>
    letOwnedTupleGo tg it v
    assign tg env v
    let mut ok := true
    for c in ifs do
      if ok then ok ← isTrue c env (eval c env)
    if ok then
      BODY (again (.compLoop e k it acc env))
    else again (.compLoop e k it acc env)
def innerRun (e : Expr) (k : Nat) (acc : Value) (env : Env) (iter : Expr) (c : Sem PySem.Fin) : Sem PySem.Fin := do
  let x ← eval iter env
  standAt iter.pos
  let x ← foldedSetIterable iter env x
  let _ ← runOwn (.compStart e k (← holding [x] (pyIter x)) acc env) env
  c
theorem wpAny_notedF {M : Model} {A : Around} {t : Sem PySem.Fin} {env : Env} {Q : PySem.Fin → Shared → Prop} {E : Value → Shared → Prop} {s : Shared} (h : wpAny M A t Q (fun _ _ => False) s) : wpAny M A (t.onRaise (fun x => do noteFrame x env; theTreesLotGoes x)) Q E s :=
  wpAny_noted (wpAny_mono h (fun _ _ q => q) fun _ _ z => z.elim)
theorem compStart_k {P : Program} {w : World} {A : Around} {e : Expr} {k : Nat} {it acc : Value} {env : Env} {R : Result → Shared → Prop} {s : Shared} (hcl : ((clausesOf e)[k]?).elim false (·.is_async != 0) = false) (hun : A.under (Code.compStart e k it acc env) = A) (hden : (model P w).den (Code.compStart e k it acc env) = ((compStart e k it acc env).onRaise (fun x => do noteFrame x env; standAt theWindowsPlace)))
    (h0 : codeAny (model P w) A (.compLoop e k it acc env) R s) (h : wpAny (model P w) A (pyIter it) (fun it' s' => codeAny (model P w) A (.compLoop e k it' acc env) R s') (notedBy (model P w) A env fun x s' => R (.error x) s') s) :
    codeAny (model P w) A (.compStart e k it acc env) R s := by
  refine codeAny_of_tree ?_
  have e1 : A.under (Code.compStart e k it acc env) = A := hun
  have e2 : (model P w).den (Code.compStart e k it acc env) = ((compStart e k it acc env).onRaise (fun x => do noteFrame x env; standAt theWindowsPlace)) := hden
  rw [e1, e2]
  refine wpAny_notedAt ?_
  unfold compStart
  simp only [hcl, Bool.false_eq_true, if_false]
  show wpAny _ _ (ask >>= _) _ _ s
  refine wpAny_bind (wpAny_askSetting (wpAny_ite ?_))
  split
  · first
      | exact wpAny_bind (wpAny_pure (wpAny_pure (And.intro rfl h0)))
      | exact wpAny_pure (And.intro rfl h0)
  · refine wpAny_bind (wpAny_rule ?_)
    have h2 : ∀ s', s' = s → wpAny (model P w) A (pyIter it >>= fun it' => again (.compLoop e k it' acc env)) (fun fin s' => match fin with | .done f => R (.ok f) s' | .again c' => c'.quiet = true ∧ codeAny (model P w) A c' R s') (notedBy (model P w) A env fun x s' => R (.error x) s') s' := fun s' es => by
      subst es
      exact wpAny_bind (wpAny_mono h (fun it' s' h' => wpAny_pure (And.intro rfl h')) fun _ _ x => x)
    cases (clausesOf e)[k]? with
    | none => first | exact h2 _ rfl | exact wpAny_bind (wpAny_pure (h2 _ rfl))
    | some g => first | exact wpAny_bind (wpAny_standAt (h2 _ rfl)) | exact wpAny_bind (wpAny_bind (wpAny_standAt (wpAny_pure (h2 _ rfl))))
section
variable {X : Cx} {e : Expr} {k : Nat} {acc : Value} {tg iter : Expr} {ifs : List Expr} {g : TG} {tt : TT} {vs vb : List Nat} {bd : TBd} {BODY : Sem PySem.Fin → Sem PySem.Fin} {wi : TI}
theorem wipe_sub {σ : L2.St} {vs vb : List Nat} (h : ∀ i ∈ vb, i ∈ vs) (j : Nat) (v : V) (e : (wipe σ vs)[j]? = some (some v)) : (wipe σ vb)[j]? = some (some v) := by
  obtain ⟨e1, e2⟩ := wipe_some e
  rw [wipe_out fun z => e2 (h j z)]
  exact e1
theorem loop_ok (hc : X.calm = true) (heq : ∀ it, (model X.prog X.w).den (Code.compLoop e k it acc X.env) = (clauseTurn e k it acc X.env tg iter ifs BODY).onRaise (fun x => do noteFrame x X.env; theTreesLotGoes x)) (hun : ∀ it, X.A.under (Code.compLoop e k it acc X.env) = X.A)
    (pg : PG X tg g) (pt : PTs X ifs tt) (hb : BodyOk X BODY bd vb) (hv : ∀ i ∈ vb, i ∈ vs) (hxe : X.xe = fun _ _ => False)
    {pins : List (Addr × Obj)} {s : Shared} {σw : L2.St} {H : Hp} {J : It} {fp : List Addr} {it : Addr} {tn : Nat → Heap → Prop} {Nx : Hp → Prop} {R : Result → Shared → Prop}
    (T : Turn X.prog X.w X.K tg J fp it tn) (I : Inv X pins σw H s) (st : tn 0 s.heap) (f : ∀ b ∈ fp, FpOk X pins H b) (h : tTurns J g tt vs σw bd Nx H)
    (hR : ∀ s' H', Inv X pins σw H' s' → Nx H' → R (.ok .next) s') :
    codeAny (model X.prog X.w) X.A (.compLoop e k (.ref it) acc X.env) R s := by
  obtain ⟨W, ⟨m0, w0⟩, turn⟩ := h
  have stat : ∀ {H' : Hp}, (∀ b ∈ fp, H' b = none) → ∀ b ∈ fp, FpOk X pins H' b := fun hn b hb => ⟨hn b hb, (f b hb).2⟩
  refine codeAny_loop rfl (fun n s' => ∃ i H', Inv X pins σw H' s' ∧ tn i s'.heap ∧ (∀ b ∈ fp, H' b = none) ∧ W i n H') (fun n s5 hI => ?_) m0 ⟨0, H, I, st, fun b hb => (f b hb).1, w0⟩
  obtain ⟨i, H5, I5, st5, n5, w5⟩ := hI
  have pgr := pg.run
  have ptr := pt.run
  rw [hxe] at pgr ptr
  rw [hun, heq]
  refine wpAny_notedF ?_
  unfold clauseTurn
  refine wpAny_bind (wpAny_standAt ?_)
  rcases turn i n H5 w5 with ⟨stop, qq⟩ | ⟨go, Nx1, hNx, step⟩
  · refine wpAny_bind (thnF (T.done X rfl rfl rfl hc i pins s5 σw H5 (fun _ _ => False) I5 (stat n5) st5 stop) fun r s6 ⟨hr, I6⟩ => ?_)
    subst hr
    exact wpAny_pure (hR s6 H5 I6 qq)
  · refine wpAny_bind (thnF (T.item X rfl rfl rfl hc i pins s5 σw H5 (fun _ _ => False) I5 (stat n5) st5 go) fun r s6 ⟨u, hr, h6⟩ => ?_)
    subst hr
    refine wpAny_bind (thnF h6 fun _ s7 ⟨x, H7, I7, r7, y7, st7, n7⟩ => ?_)
    have I7' := I7.pinned (stat n7) (T.obj _ _ st7)
    refine wpAny_bind (thnF (pgr _ s7 _ H7 x u _ I7' r7 (step x H7 y7)) fun _ s8 ⟨σ8, H8, I8, hw8, q8⟩ => ?_)
    refine wpAny_bind (thnF (ptr _ s8 σ8 H8 _ I8 q8) fun b s9 ⟨H9, I9, q9⟩ => ?_)
    have fin : ∀ {σ9 : L2.St} {s' : Shared} {H' : Hp}, Inv X (pins ++ pinsAt fp s7.heap) σ9 H' s' → σw.length = σ9.length → (∀ (j : Nat) v, σw[j]? = some (some v) → σ9[j]? = some (some v)) → Nx1 H' →
        ∃ m, m < n ∧ ∃ i H', Inv X pins σw H' s' ∧ tn i s'.heap ∧ (∀ b ∈ fp, H' b = none) ∧ W i m H' := fun {σ9 s' H'} I' hl hk nx => by
      obtain ⟨m', hm, w'⟩ := hNx H' nx
      have pin' : ∀ b ∈ fp, ∀ o, s7.heap.get? b = some o → s'.heap.get? b = some o ∧ H' b = none := fun b hb o e =>
        let z := I'.pin (b, o) (List.mem_append_right _ (List.mem_append_right _ (mem_pinsAt hb e)))
        ⟨z.1, z.2.1⟩
      refine ⟨m', hm, i + 1, H', (I'.unpinned (pins := pins)).weak hl hk, T.keep _ _ _ st7 fun b hb o e => (pin' b hb o e).1, fun b hb => ?_, w'⟩
      obtain ⟨o, e, _⟩ := T.obj _ _ st7 b hb
      exact (pin' b hb o e).2
    cases b with
    | false =>
      refine wpAny_pure ⟨rfl, ?_⟩
      exact fin I9 (by rw [← hw8, wipe_length]) (fun j v e => by rw [← hw8] at e; exact (wipe_some e).1) q9
    | true =>
      refine hb _ s9 σ8 H9 Nx1 _ _ I9 q9 fun s10 H10 I10 q10 => ?_
      refine wpAny_pure ⟨rfl, ?_⟩
      exact fin I10 (by rw [← hw8, wipe_length, wipe_length]) (fun j v e => by rw [← hw8] at e; exact wipe_sub hv j v e) q10
/-- a for further in -/
theorem body_for (hc : X.calm = true) (hxe : X.xe = fun _ _ => False) (heq : ∀ it, (model X.prog X.w).den (Code.compLoop e k it acc X.env) = (clauseTurn e k it acc X.env tg iter ifs BODY).onRaise (fun x => do noteFrame x X.env; theTreesLotGoes x)) (hun : ∀ it, X.A.under (Code.compLoop e k it acc X.env) = X.A)
    (hst : ∀ (R : Result → Shared → Prop) (it : Value) (s : Shared), codeAny (model X.prog X.w) X.A (.compLoop e k it acc X.env) R s → wpAny (model X.prog X.w) X.A (pyIter it) (fun it' s' => codeAny (model X.prog X.w) X.A (.compLoop e k it' acc X.env) R s') (notedBy (model X.prog X.w) X.A X.env fun x s' => R (.error x) s') s → codeAny (model X.prog X.w) X.A (.compStart e k it acc X.env) R s)
    (pi : PI X tg iter wi) (hs : ∀ x, foldedSetIterable iter X.env x = pure x) (pg : PG X tg g) (pt : PTs X ifs tt) (hb : BodyOk X BODY bd vb) (hv : ∀ i ∈ vb, i ∈ vs) : BodyOk X (innerRun e k acc X.env iter) (bFor wi g tt vs bd) vs := by
  intro pins s σ H Nx c Qc I h hcc
  have pir := pi.run
  rw [hxe] at pir
  unfold innerRun
  refine wpAny_bind (thnF (pir pins s σ H _ I h) fun xv s10 hx => wpAny_bind (wpAny_standAt (wpAny_bind (wpAny_of_eq (hs xv) (wpAny_bind (wpAny_holding (thnF hx fun itv s11 h11 => ?_)))))))
  obtain ⟨it1, fp1, tn1, J1, H11, e1, I11, T1, st11, f11, q11⟩ := h11
  subst e1
  refine wpAny_bind (wpAny_runOwn ?_)
  rw [Around.mark_none]
  have lp := loop_ok (R := fun r s' => match r with
      | .ok _ => ∃ H', Inv X pins (wipe σ vs) H' s' ∧ Nx H'
      | .error _ => False) hc heq hun pg pt hb hv hxe T1 (I11.weak (wipe_length _ _) (fun j v e => (wipe_some e).1)) st11 f11 q11 (fun s' H' I' n => ⟨H', I', n⟩)
  refine codeAny_mono (hst _ _ _ lp (T1.self X.A 0 _ _ _ st11 lp)) fun r s' hr => ?_
  cases r with
  | ok f =>
    obtain ⟨H', I', n⟩ := hr
    exact hcc s' H' I' n
  | error e => exact hr.elim
end
/-! ### sets -/
/-- the member is put in -/
def bAdd (w : World) (te : TE) (D : Addr) : TBd := fun σ H Nx => te σ H fun y H1 => ∃ (k : Key) (S : Key → Bool) (n : Nat), y = kV k ∧ H1 D = some (SetMO w D S n) ∧ n + 1 < scanBound ∧ Nx (upd H1 D (SetMO w D (fun j => S j || decide (j = k)) (if S k = true then n else n + 1)))
def addRun (elt : Expr) (D : Addr) (env : Env) (c : Sem PySem.Fin) : Sem PySem.Fin := do (do let v ← eval elt env; standAt elt.pos; let _ ← call (.builtin "set.add") [.ref D, v]); c
section
variable {X : Cx} {elt : Expr} {te : TE}
theorem body_add (hxe : X.xe = fun _ _ => False) (he : PE X elt te) (D : Addr) : BodyOk X (addRun elt D X.env) (bAdd X.w te D) [] := by
  intro pins s σ H Nx c Qc I h hcc
  have per := he.run
  rw [hxe] at per
  unfold addRun
  refine wpAny_bind (wpAny_bind (thnF (per pins s σ H _ I h) fun v s1 ⟨y, H1, I1, r1, k, S, n, ey, hD, room, q⟩ => wpAny_bind (wpAny_standAt ?_)))
  subst ey
  have := addM_ok (X := X) (E := X.xe) r1 I1 hD room (Q := fun _ s' => ∃ H', Inv X pins (wipe σ []) H' s' ∧ Nx H') fun s' I' => ⟨_, I', q⟩
  rw [hxe] at this
  exact wpAny_bind (wpAny_mono this (fun _ s' q => wpAny_pure (let ⟨H', I', n⟩ := q; hcc s' H' I' n)) fun _ _ z => z)
/-- {elt for tg in iter if .. ..} -/
def tScN (w : World) (wi : TI) (g : TG) (tt : TT) (vs : List Nat) (bd : Addr → TBd) : TE := fun σ H Q => wi σ H fun J H1 => ∀ D, H1 D = none → tTurns J g tt vs (wipe σ vs) (bd D) (fun H' => Q (.ref D) H') (upd H1 D (SetMO w D (fun _ => false) 0))
theorem scN_core {pins : List (Addr × Obj)} {s : Shared} {σ : L2.St} {H : Hp} {Q : VK} {tg iter : Expr} {ifs : List Expr} {rest : List Comprehension} {scope : Scope} {own : List (Str × Nat)} {vb : List Nat} {pos pos' : Pos} {wi : TI} {g : TG} {tt : TT} {bd : Addr → TBd} {BODY : Addr → Env → Sem PySem.Fin → Sem PySem.Fin} {use : Option (Value → Sem Unit)} {Qf : Value → Shared → Prop}
    (hc : X.calm = true) (hN : X.N.Nodup) (I : Inv X pins σ H s) (hi : PI X tg iter wi) (ok : BlkOk X.N X.env.scope scope own) (hv : ∀ i ∈ vb, i ∈ own.map (·.2))
    (heq : ∀ (env : Env) (D : Addr) (it : Value), (model X.prog X.w).den (Code.compLoop (.SetComp elt (⟨tg, iter, ifs, 0⟩ :: rest) scope pos) 0 it (.ref D) env) = (clauseTurn (.SetComp elt (⟨tg, iter, ifs, 0⟩ :: rest) scope pos) 0 it (.ref D) env tg iter ifs (BODY D env)).onRaise (fun x => do noteFrame x env; theTreesLotGoes x))
    (hun : ∀ (env : Env) (D : Addr) (it : Value), X.A.under (Code.compLoop (.SetComp elt (⟨tg, iter, ifs, 0⟩ :: rest) scope pos) 0 it (.ref D) env) = X.A)
    (hg : ∀ (s : Shared) (H : Hp) (C : Addr) (cl : List (Str × Addr)) (fp : List Addr), PG (X.blk s H scope (compEnvC scope cl C X.env) fp) tg g) (ht : ∀ (s : Shared) (H : Hp) (C : Addr) (cl : List (Str × Addr)) (fp : List Addr), PTs (X.blk s H scope (compEnvC scope cl C X.env) fp) ifs tt)
    (hb : ∀ (D : Addr) (s : Shared) (H : Hp) (C : Addr) (cl : List (Str × Addr)) (fp : List Addr), BodyOk (X.blk s H scope (compEnvC scope cl C X.env) fp) (BODY D (compEnvC scope cl C X.env)) (bd D) vb) (hs : ∀ x, foldedSetIterable iter X.env x = pure x)
    (h : tScN X.w wi g tt (own.map (·.2)) bd σ H Q)
    (hRR : ∀ D C s' m H', Inv X pins σ H' s' → Q (.ref D) H' → s'.heap.Ns C m → FpOk X pins H' C → compPost (model X.prog X.w) X.A X.xe use Qf (.ref D) C (.ok .next) s') :
    wpAny (model X.prog X.w) X.A (comprehension (.SetComp elt (⟨tg, iter, ifs, 0⟩ :: rest) scope pos) scope X.env pos' (newSet (.type "set")) false (eval iter X.env) use) Qf X.xe s := by
  have hfree : ∀ y ∈ scope.names, y.2 = .free → ∃ c, X.env.cells.lookup y.1 = some c := fun y hy e => by
    rcases ok.free y hy e with k | k
    · exact I.ok.has _ (.inl k)
    · exact I.ok.has _ (.inr k)
  refine wpAny_comprehension_free (use := use) rfl hs (closure_ok hfree) ok.kind (fun y hy e => by rw [ok.uniq y hy, e])
    (thn (hi.run pins s σ H _ I h) fun xv s1 hx => thn hx fun itv s2 h2 => ?_)
  obtain ⟨it, fp, tn, J, H2, e, I2, T, st2, f2, q⟩ := h2
  subst e
  refine PpSet.newSet_ok (newEnv_comp ?_)
  generalize hD : s2.heap.objs.size = D
  have hDn : H2 D = none := I2.hok.fresh (Nat.le_of_eq hD)
  have q := q D hDn
  generalize hs3 : ({ s2 with heap := s2.heap.push { cls := .type "set", dict := none, data := .set #[] 0 (.fresh 0 0 (!X.w.params.followText "set-order")) } } : Shared) = s3
  have I3 : Inv X pins σ (upd H2 D (SetMO X.w D (fun _ => false) 0)) s3 := by
    rw [← hs3]
    refine I2.laid (t' := s2.toks) (fun b o e => Heap.get?_push_of_some _ e) (Nat.le_of_eq hD) ?_
    rw [← hD]
    exact setMO_new (setM_fresh X.w)
  have h3 : s3.heap = s2.heap.push { cls := .type "set", dict := none, data := .set #[] 0 (.fresh 0 0 (!X.w.params.followText "set-order")) } := by rw [← hs3]
  have sz : ∀ b ∈ fp, b < s2.heap.objs.size := fun b hb => by
    obtain ⟨o, e, _⟩ := T.obj _ _ st2 b hb
    exact Heap.lt_size e
  have f3 : ∀ b ∈ fp, FpOk X pins (upd H2 D (SetMO X.w D (fun _ => false) 0)) b ∧ b < s3.heap.objs.size := fun b hb => by
    have hlt := sz b hb
    refine ⟨⟨?_, (f2 b hb).2⟩, by rw [h3, Heap.size_push]; exact Nat.lt_succ_of_lt hlt⟩
    rw [upd_ne (by rw [← hD]; exact Nat.ne_of_lt hlt)]
    exact (f2 b hb).1
  have st3 : tn 0 s3.heap := T.keep _ _ _ st2 fun b _ o e => by rw [h3]; exact Heap.get?_push_of_some _ e
  have I4 := block_start I3 ok hN f3
  have pg := hg s3 (upd H2 D (SetMO X.w D (fun _ => false) 0)) s3.heap.objs.size (cellsFrom (s3.heap.objs.size + 1) scope.names (cloFrom X.env.cells scope.names [])) fp
  have pt := ht s3 (upd H2 D (SetMO X.w D (fun _ => false) 0)) s3.heap.objs.size (cellsFrom (s3.heap.objs.size + 1) scope.names (cloFrom X.env.cells scope.names [])) fp
  have pb := hb D s3 (upd H2 D (SetMO X.w D (fun _ => false) 0)) s3.heap.objs.size (cellsFrom (s3.heap.objs.size + 1) scope.names (cloFrom X.env.cells scope.names [])) fp
  show codeAny _ _ (.compStart (.SetComp elt (⟨tg, iter, ifs, 0⟩ :: rest) scope pos) 0 (.ref it) (.ref D) (compEnvC scope (cellsFrom (s3.heap.objs.size + 1) scope.names (cloFrom X.env.cells scope.names [])) s3.heap.objs.size X.env)) (compPost (model X.prog X.w) X.A X.xe use Qf (.ref D) s3.heap.objs.size) { s3 with heap := pushCells (s3.heap.push { cls := .type "dict", data := .dict #[] }) scope.names }
  have nfp : ∀ b ∈ fp, (upd H2 D (SetMO X.w D (fun _ => false) 0)) b = none := fun b hb => (f3 b hb).1.1
  generalize hce : compEnvC scope (cellsFrom (s3.heap.objs.size + 1) scope.names (cloFrom X.env.cells scope.names [])) s3.heap.objs.size X.env = ce at I4 pg pt pb ⊢
  have cL : ce.locals = s3.heap.objs.size := by subst hce; rfl
  generalize hH3 : upd H2 D (SetMO X.w D (fun _ => false) 0) = H3 at I3 I4 pg pt pb q nfp f3
  generalize hs4 : ({ s3 with heap := pushCells (s3.heap.push { cls := .type "dict", data := .dict #[] }) scope.names } : Shared) = s4 at I4 ⊢
  have st4 : tn 0 s4.heap := T.keep _ _ _ st3 fun b _ o e => by rw [← hs4]; exact pushCells_keeps _ _ _ _ (Heap.get?_push_of_some _ e)
  have stat : ∀ b ∈ fp, FpOk (X.blk s3 H3 scope ce fp) [] H3 b := fun b hb =>
    ⟨nfp b hb, (I4.ok.exf b hb).1, I4.ok.exfs b hb, .inl hb, fun x c e => (I4.ok.exf b hb).2 x c e, fun p hp => absurd (show p ∈ ([] : List (Addr × Obj)) ++ [] from hp) (by simp)⟩
  have loop : codeAny (model X.prog X.w) X.A (.compLoop (.SetComp elt (⟨tg, iter, ifs, 0⟩ :: rest) scope pos) 0 (.ref it) (.ref D) ce) (compPost (model X.prog X.w) X.A X.xe use Qf (.ref D) s3.heap.objs.size) s4 := by
    refine loop_ok (X := X.blk s3 H3 scope ce fp) (pins := []) hc (heq ce D) (hun ce D) pg pt pb hv rfl T I4 st4 stat q fun s6 H5 I6 qq => ?_
    have I7 : Inv X pins σ H5 s6 := I3.call' (ch := fp) I6.os I6.base I6.hok I6.bare fun b hb => ⟨(f3 b hb).1.2.2.2.1, (f3 b hb).1.2.1, (f3 b hb).1.2.2.2.2.1, (f3 b hb).1.2.2.2.2.2⟩
    have nC : H5 s3.heap.objs.size = none := by
      have z : H5 ce.locals = none := I6.free
      rw [cL] at z
      exact z
    obtain ⟨m, hn, _⟩ := I6.loc
    have hn : s6.heap.Ns ce.locals m := hn
    rw [cL] at hn
    exact hRR D s3.heap.objs.size s6 m H5 I7 qq hn (I3.fpOk (Nat.le_refl _) nC)
  exact PpSet.codeAny_compStart_set loop (T.self X.A 0 _ _ _ st4 loop)
/-- one for -/
theorem pe_sc1 {tg iter : Expr} {ifs : List Expr} {scope : Scope} {own : List (Str × Nat)} {pos : Pos} {wi : TI} {g : TG} {tt : TT} {w : World} (hc : X.calm = true) (hN : X.N.Nodup) (hi : PI X tg iter wi) (ok : BlkOk X.N X.env.scope scope own)
    (hg : ∀ (s : Shared) (H : Hp) (C : Addr) (cl : List (Str × Addr)) (fp : List Addr), PG (X.blk s H scope (compEnvC scope cl C X.env) fp) tg g) (ht : ∀ (s : Shared) (H : Hp) (C : Addr) (cl : List (Str × Addr)) (fp : List Addr), PTs (X.blk s H scope (compEnvC scope cl C X.env) fp) ifs tt)
    (he : ∀ (s : Shared) (H : Hp) (C : Addr) (cl : List (Str × Addr)) (fp : List Addr), PE (X.blk s H scope (compEnvC scope cl C X.env) fp) elt te) (hs : ∀ x, foldedSetIterable iter X.env x = pure x := by intro _; rfl) (hw : X.w = w := by rfl) :
    PE X (.SetComp elt [⟨tg, iter, ifs, 0⟩] scope pos) (tScN w wi g tt (own.map (·.2)) (bAdd w te)) := by
  subst hw
  refine ⟨fun pins s σ H Q I h => ?_⟩
  rw [PpSet.eval_SetComp]
  refine scN_core (BODY := fun D env => addRun elt D env) (vb := []) hc hN I hi ok (fun i z => nomatch z) (fun env D it => by rfl) (fun env D it => by rfl) hg ht (fun D s H C cl fp => body_add rfl (he s H C cl fp) D) hs h fun D C s' m H' I' q hn f => ⟨m, hn, fun h'' sb => ?_⟩
  obtain ⟨f0, f1, f2, f3, f4, f5⟩ := f
  exact ⟨.ref D, H', I'.turned (t' := s'.toks) (fun b o hb e => (sb.2 b hb).trans e) f0 f1 f3 f4 f5, rfl, q⟩
/-- three fors -/
theorem pe_sc3 {tg iter tg1 iter1 tg2 iter2 : Expr} {ifs ifs1 ifs2 : List Expr} {scope : Scope} {own : List (Str × Nat)} {vs1 vs2 : List Nat} {pos : Pos} {wi wi1 wi2 : TI} {g g1 g2 : TG} {tt tt1 tt2 : TT} {w : World} (hc : X.calm = true) (hN : X.N.Nodup) (hi : PI X tg iter wi) (ok : BlkOk X.N X.env.scope scope own)
    (hv : (∀ i ∈ vs1, i ∈ own.map (·.2)) ∧ ∀ i ∈ vs2, i ∈ vs1)
    (hg : ∀ (s : Shared) (H : Hp) (C : Addr) (cl : List (Str × Addr)) (fp : List Addr), PG (X.blk s H scope (compEnvC scope cl C X.env) fp) tg g) (ht : ∀ (s : Shared) (H : Hp) (C : Addr) (cl : List (Str × Addr)) (fp : List Addr), PTs (X.blk s H scope (compEnvC scope cl C X.env) fp) ifs tt)
    (hi1 : ∀ (s : Shared) (H : Hp) (C : Addr) (cl : List (Str × Addr)) (fp : List Addr), PI (X.blk s H scope (compEnvC scope cl C X.env) fp) tg1 iter1 wi1)
    (hg1 : ∀ (s : Shared) (H : Hp) (C : Addr) (cl : List (Str × Addr)) (fp : List Addr), PG (X.blk s H scope (compEnvC scope cl C X.env) fp) tg1 g1) (ht1 : ∀ (s : Shared) (H : Hp) (C : Addr) (cl : List (Str × Addr)) (fp : List Addr), PTs (X.blk s H scope (compEnvC scope cl C X.env) fp) ifs1 tt1)
    (hi2 : ∀ (s : Shared) (H : Hp) (C : Addr) (cl : List (Str × Addr)) (fp : List Addr), PI (X.blk s H scope (compEnvC scope cl C X.env) fp) tg2 iter2 wi2)
    (hg2 : ∀ (s : Shared) (H : Hp) (C : Addr) (cl : List (Str × Addr)) (fp : List Addr), PG (X.blk s H scope (compEnvC scope cl C X.env) fp) tg2 g2) (ht2 : ∀ (s : Shared) (H : Hp) (C : Addr) (cl : List (Str × Addr)) (fp : List Addr), PTs (X.blk s H scope (compEnvC scope cl C X.env) fp) ifs2 tt2)
    (he : ∀ (s : Shared) (H : Hp) (C : Addr) (cl : List (Str × Addr)) (fp : List Addr), PE (X.blk s H scope (compEnvC scope cl C X.env) fp) elt te) (hs : ∀ x, foldedSetIterable iter X.env x = pure x := by intro _; rfl) (hs1 : ∀ env x, foldedSetIterable iter1 env x = pure x := by intro _ _; rfl) (hs2 : ∀ env x, foldedSetIterable iter2 env x = pure x := by intro _ _; rfl) (hw : X.w = w := by rfl) :
    PE X (.SetComp elt [⟨tg, iter, ifs, 0⟩, ⟨tg1, iter1, ifs1, 0⟩, ⟨tg2, iter2, ifs2, 0⟩] scope pos) (tScN w wi g tt (own.map (·.2)) fun D => bFor wi1 g1 tt1 vs1 (bFor wi2 g2 tt2 vs2 (bAdd w te D))) := by
  subst hw
  refine ⟨fun pins s σ H Q I h => ?_⟩
  rw [PpSet.eval_SetComp]
  refine scN_core (BODY := fun D env => innerRun (.SetComp elt [⟨tg, iter, ifs, 0⟩, ⟨tg1, iter1, ifs1, 0⟩, ⟨tg2, iter2, ifs2, 0⟩] scope pos) 1 (.ref D) env iter1) (vb := vs1) hc hN I hi ok hv.1 (fun env D it => by rfl) (fun env D it => by rfl) hg ht (fun D s H C cl fp => ?_) hs h fun D C s' m H' I' q hn f => ⟨m, hn, fun h'' sb => ?_⟩
  · have b2 := body_add (X := X.blk s H scope (compEnvC scope cl C X.env) fp) rfl (he s H C cl fp) D
    have b1 := body_for (X := X.blk s H scope (compEnvC scope cl C X.env) fp) (e := .SetComp elt [⟨tg, iter, ifs, 0⟩, ⟨tg1, iter1, ifs1, 0⟩, ⟨tg2, iter2, ifs2, 0⟩] scope pos) (k := 2) (acc := .ref D) (vs := vs2) hc rfl (fun it => by rfl) (fun it => by rfl) (fun R it s h0 h => compStart_k (by rfl) (by rfl) (by rfl) h0 h) (hi2 s H C cl fp) (hs2 _) (hg2 s H C cl fp) (ht2 s H C cl fp) b2 (fun i z => nomatch z)
    exact body_for (X := X.blk s H scope (compEnvC scope cl C X.env) fp) (e := .SetComp elt [⟨tg, iter, ifs, 0⟩, ⟨tg1, iter1, ifs1, 0⟩, ⟨tg2, iter2, ifs2, 0⟩] scope pos) (k := 1) (acc := .ref D) (vs := vs1) hc rfl (fun it => by rfl) (fun it => by rfl) (fun R it s h0 h => compStart_k (by rfl) (by rfl) (by rfl) h0 h) (hi1 s H C cl fp) (hs1 _) (hg1 s H C cl fp) (ht1 s H C cl fp) b1 hv.2
  obtain ⟨f0, f1, f2, f3, f4, f5⟩ := f
  exact ⟨.ref D, H', I'.turned (t' := s'.toks) (fun b o hb e => (sb.2 b hb).trans e) f0 f1 f3 f4 f5, rfl, q⟩
theorem ps_setSc1 {i : Nat} {y : Str} {py spos : Pos} {tg iter : Expr} {ifs : List Expr} {scope : Scope} {own : List (Str × Nat)} {pos : Pos} {wi : TI} {g : TG} {tt : TT} {w : World} (hc : X.calm = true) (hN : X.N.Nodup) (hy : X.N[i]? = some y) (hyl : X.env.scope.names.lookup y = some .local) (hsw : swapsWith (.SetComp elt [⟨tg, iter, ifs, 0⟩] scope pos) (some (.Name y py)) spos.line X.env = pure true) (hi : PI X tg iter wi) (ok : BlkOk X.N X.env.scope scope own)
    (hg : ∀ (s : Shared) (H : Hp) (C : Addr) (cl : List (Str × Addr)) (fp : List Addr), PG (X.blk s H scope (compEnvC scope cl C X.env) fp) tg g) (ht : ∀ (s : Shared) (H : Hp) (C : Addr) (cl : List (Str × Addr)) (fp : List Addr), PTs (X.blk s H scope (compEnvC scope cl C X.env) fp) ifs tt)
    (he : ∀ (s : Shared) (H : Hp) (C : Addr) (cl : List (Str × Addr)) (fp : List Addr), PE (X.blk s H scope (compEnvC scope cl C X.env) fp) elt te) (hs : ∀ x, foldedSetIterable iter X.env x = pure x := by intro _; rfl) (hw : X.w = w := by rfl) :
    PS X (.Assign [.Name y py] (.SetComp elt [⟨tg, iter, ifs, 0⟩] scope pos) spos) (tAsg (tScN w wi g tt (own.map (·.2)) (bAdd w te)) (gName i)) := by
  subst hw
  refine ⟨fun pins s σ H D I h => ?_⟩
  rw [exec_Assign_Name_used _ _ _ _ hsw]
  refine wpAny_bind (wpAny_standAt (wpAny_bind ?_))
  show wpAny _ X.A (do let _ ← comprehension (.SetComp elt [⟨tg, iter, ifs, 0⟩] scope pos) scope X.env (firstIterPos [⟨tg, iter, ifs, 0⟩] pos) (newSet (.type "set")) false (eval iter X.env) (some (assign (.Name y py) X.env))) _ _ s
  have h : (tScN X.w wi g tt (own.map (·.2)) (bAdd X.w te)) σ H (fun x H1 => gName i x σ H1 D.nx) := h
  refine wpAny_bind (thn (scN_core (Qf := fun _ s' => SP X pins D .next s') (use := some (assign (.Name y py) X.env)) (BODY := fun D env => addRun elt D env) (vb := []) hc hN I hi ok (fun i z => nomatch z) (fun env D it => by rfl) (fun env D it => by rfl) hg ht (fun D s H C cl fp => body_add rfl (he s H C cl fp) D) hs h fun L C s' m H' I' q hn f => ?_) fun _ s' hq => wpAny_pure (wpAny_pure hq))
  show wpAny _ _ (assign (.Name y py) X.env (.ref L)) _ _ _
  refine wpAny_assign_Name (store_ok2 (v := V.ref L) I' hN hy (.inl hyl) rfl (fun s2 I2 ⟨a, sb, ha⟩ => ?_) (.inr hyl))
  obtain ⟨f0, f1, f2, f3, f4, f5⟩ := f
  have haC : C ≠ a := by
    rcases ha with z | z
    · rw [z]; exact f1
    · exact fun e => f4 y a z e.symm
  refine ⟨m, hn.sameBut sb haC, fun h3 sb3 => ?_⟩
  exact ⟨_, H', I2.turned (t' := s2.toks) (fun b o hb e => (sb3.2 b hb).trans e) f0 f1 f3 f4 f5, q⟩
theorem ps_setSc3 {i : Nat} {y : Str} {py spos : Pos} {tg iter tg1 iter1 tg2 iter2 : Expr} {ifs ifs1 ifs2 : List Expr} {scope : Scope} {own : List (Str × Nat)} {vs1 vs2 : List Nat} {pos : Pos} {wi wi1 wi2 : TI} {g g1 g2 : TG} {tt tt1 tt2 : TT} {w : World} (hc : X.calm = true) (hN : X.N.Nodup) (hy : X.N[i]? = some y) (hyl : X.env.scope.names.lookup y = some .local) (hsw : swapsWith (.SetComp elt [⟨tg, iter, ifs, 0⟩, ⟨tg1, iter1, ifs1, 0⟩, ⟨tg2, iter2, ifs2, 0⟩] scope pos) (some (.Name y py)) spos.line X.env = pure true) (hi : PI X tg iter wi) (ok : BlkOk X.N X.env.scope scope own)
    (hv : (∀ i ∈ vs1, i ∈ own.map (·.2)) ∧ ∀ i ∈ vs2, i ∈ vs1)
    (hg : ∀ (s : Shared) (H : Hp) (C : Addr) (cl : List (Str × Addr)) (fp : List Addr), PG (X.blk s H scope (compEnvC scope cl C X.env) fp) tg g) (ht : ∀ (s : Shared) (H : Hp) (C : Addr) (cl : List (Str × Addr)) (fp : List Addr), PTs (X.blk s H scope (compEnvC scope cl C X.env) fp) ifs tt)
    (hi1 : ∀ (s : Shared) (H : Hp) (C : Addr) (cl : List (Str × Addr)) (fp : List Addr), PI (X.blk s H scope (compEnvC scope cl C X.env) fp) tg1 iter1 wi1)
    (hg1 : ∀ (s : Shared) (H : Hp) (C : Addr) (cl : List (Str × Addr)) (fp : List Addr), PG (X.blk s H scope (compEnvC scope cl C X.env) fp) tg1 g1) (ht1 : ∀ (s : Shared) (H : Hp) (C : Addr) (cl : List (Str × Addr)) (fp : List Addr), PTs (X.blk s H scope (compEnvC scope cl C X.env) fp) ifs1 tt1)
    (hi2 : ∀ (s : Shared) (H : Hp) (C : Addr) (cl : List (Str × Addr)) (fp : List Addr), PI (X.blk s H scope (compEnvC scope cl C X.env) fp) tg2 iter2 wi2)
    (hg2 : ∀ (s : Shared) (H : Hp) (C : Addr) (cl : List (Str × Addr)) (fp : List Addr), PG (X.blk s H scope (compEnvC scope cl C X.env) fp) tg2 g2) (ht2 : ∀ (s : Shared) (H : Hp) (C : Addr) (cl : List (Str × Addr)) (fp : List Addr), PTs (X.blk s H scope (compEnvC scope cl C X.env) fp) ifs2 tt2)
    (he : ∀ (s : Shared) (H : Hp) (C : Addr) (cl : List (Str × Addr)) (fp : List Addr), PE (X.blk s H scope (compEnvC scope cl C X.env) fp) elt te) (hs : ∀ x, foldedSetIterable iter X.env x = pure x := by intro _; rfl) (hs1 : ∀ env x, foldedSetIterable iter1 env x = pure x := by intro _ _; rfl) (hs2 : ∀ env x, foldedSetIterable iter2 env x = pure x := by intro _ _; rfl) (hw : X.w = w := by rfl) :
    PS X (.Assign [.Name y py] (.SetComp elt [⟨tg, iter, ifs, 0⟩, ⟨tg1, iter1, ifs1, 0⟩, ⟨tg2, iter2, ifs2, 0⟩] scope pos) spos) (tAsg (tScN w wi g tt (own.map (·.2)) fun D => bFor wi1 g1 tt1 vs1 (bFor wi2 g2 tt2 vs2 (bAdd w te D))) (gName i)) := by
  subst hw
  refine ⟨fun pins s σ H D I h => ?_⟩
  rw [exec_Assign_Name_used _ _ _ _ hsw]
  refine wpAny_bind (wpAny_standAt (wpAny_bind ?_))
  show wpAny _ X.A (do let _ ← comprehension (.SetComp elt [⟨tg, iter, ifs, 0⟩, ⟨tg1, iter1, ifs1, 0⟩, ⟨tg2, iter2, ifs2, 0⟩] scope pos) scope X.env (firstIterPos [⟨tg, iter, ifs, 0⟩, ⟨tg1, iter1, ifs1, 0⟩, ⟨tg2, iter2, ifs2, 0⟩] pos) (newSet (.type "set")) false (eval iter X.env) (some (assign (.Name y py) X.env))) _ _ s
  have h : (tScN X.w wi g tt (own.map (·.2)) fun D => bFor wi1 g1 tt1 vs1 (bFor wi2 g2 tt2 vs2 (bAdd X.w te D))) σ H (fun x H1 => gName i x σ H1 D.nx) := h
  refine wpAny_bind (thn (scN_core (Qf := fun _ s' => SP X pins D .next s') (use := some (assign (.Name y py) X.env)) (BODY := fun D env => innerRun (.SetComp elt [⟨tg, iter, ifs, 0⟩, ⟨tg1, iter1, ifs1, 0⟩, ⟨tg2, iter2, ifs2, 0⟩] scope pos) 1 (.ref D) env iter1) (vb := vs1) hc hN I hi ok hv.1 (fun env D it => by rfl) (fun env D it => by rfl) hg ht (fun D s H C cl fp => ?_) hs h fun L C s' m H' I' q hn f => ?_) fun _ s' hq => wpAny_pure (wpAny_pure hq))
  · have b2 := body_add (X := X.blk s H scope (compEnvC scope cl C X.env) fp) rfl (he s H C cl fp) D
    have b1 := body_for (X := X.blk s H scope (compEnvC scope cl C X.env) fp) (e := .SetComp elt [⟨tg, iter, ifs, 0⟩, ⟨tg1, iter1, ifs1, 0⟩, ⟨tg2, iter2, ifs2, 0⟩] scope pos) (k := 2) (acc := .ref D) (vs := vs2) hc rfl (fun it => by rfl) (fun it => by rfl) (fun R it s h0 h => compStart_k (by rfl) (by rfl) (by rfl) h0 h) (hi2 s H C cl fp) (hs2 _) (hg2 s H C cl fp) (ht2 s H C cl fp) b2 (fun i z => nomatch z)
    exact body_for (X := X.blk s H scope (compEnvC scope cl C X.env) fp) (e := .SetComp elt [⟨tg, iter, ifs, 0⟩, ⟨tg1, iter1, ifs1, 0⟩, ⟨tg2, iter2, ifs2, 0⟩] scope pos) (k := 1) (acc := .ref D) (vs := vs1) hc rfl (fun it => by rfl) (fun it => by rfl) (fun R it s h0 h => compStart_k (by rfl) (by rfl) (by rfl) h0 h) (hi1 s H C cl fp) (hs1 _) (hg1 s H C cl fp) (ht1 s H C cl fp) b1 hv.2
  show wpAny _ _ (assign (.Name y py) X.env (.ref L)) _ _ _
  refine wpAny_assign_Name (store_ok2 (v := V.ref L) I' hN hy (.inl hyl) rfl (fun s2 I2 ⟨a, sb, ha⟩ => ?_) (.inr hyl))
  obtain ⟨f0, f1, f2, f3, f4, f5⟩ := f
  have haC : C ≠ a := by
    rcases ha with z | z
    · rw [z]; exact f1
    · exact fun e => f4 y a z e.symm
  refine ⟨m, hn.sameBut sb haC, fun h3 sb3 => ?_⟩
  exact ⟨_, H', I2.turned (t' := s2.toks) (fun b o hb e => (sb3.2 b hb).trans e) f0 f1 f3 f4 f5, q⟩
theorem sw_trueS {elt : Expr} {gs : List Comprehension} {scope : Scope} {pos py : Pos} {y : Str} {l : Nat} {env : Env} (hk : env.scope.kind = .function) (hy : env.scope.names.lookup y = some .local) (hl : (py.line == pos.line) = true)
    (ha : (scope.names.any fun (n, k) => n == y && (k == .local || k == .cell)) = false) : swapsWith (.SetComp elt gs scope pos) (some (.Name y py)) l env = pure true := by
  have ky : env.kindOf y = some .local := hy
  have hb : env.blockKind = .function := by unfold Env.blockKind; rw [hk]; rfl
  unfold swapsWith
  simp only [hb, ky, ha, Expr.pos, hl]
  rfl
end
/-- a walk over turns, by the heap alone -/
theorem turns_w {J : It} {n : Nat} {G : Hp → Prop} {Y : Nat → Hp → V → Hp → Prop} (w : Walk J n G Y) {g : TG} {tt : TT} {vs : List Nat} {σw : L2.St} {bd : TBd} {Nx : Hp → Prop} {H0 : Hp} (Pv : Nat → Hp → Prop) (h0 : Pv 0 H0) (hG : ∀ i H, i ≤ n → Pv i H → G H)
    (hs : ∀ i x H H', i < n → Pv i H → Y i H x H' → g x σw H' fun σ2 H2 => wipe σ2 vs = σw ∧ tt σ2 H2 fun b H3 => if b = true then bd σ2 H3 (Pv (i + 1)) else Pv (i + 1) H3) (hd : ∀ H, Pv n H → Nx H) : tTurns J g tt vs σw bd Nx H0 := by
  refine ⟨fun i m H => m = n - i ∧ i ≤ n ∧ Pv i H, ⟨n, by simp, Nat.zero_le _, h0⟩, ?_⟩
  rintro i m H ⟨rfl, hi, p⟩
  have q := hG i H hi p
  by_cases hlt : i < n
  · exact .inr ⟨w.goes i H hlt q, Pv (i + 1), fun H' p' => ⟨n - (i + 1), by omega, rfl, hlt, p'⟩, fun x H' y => hs i x H H' hlt p (w.yields i H x H' hlt q y)⟩
  · have e : i = n := by omega
    subst e
    exact .inl ⟨w.stops H q, hd H p⟩
theorem wkx {J : It} {n : Nat} {G : Hp → Prop} {Y : Nat → Hp → V → Hp → Prop} (w : Walk J n G Y) {B : V → Hp → (Hp → Prop) → Prop} {Fin : Hp → Prop} {H0 : Hp} (Pv : Nat → Hp → Prop) (h0 : Pv 0 H0) (hG : ∀ i H, i ≤ n → Pv i H → G H)
    (hs : ∀ i x H H', i < n → Pv i H → Y i H x H' → B x H' (Pv (i + 1))) (hd : ∀ H, Pv n H → Fin H) :
    ∃ W : Nat → Nat → Hp → Prop, (∃ m, W 0 m H0) ∧ ∀ i m H, W i m H → (J.stop i H ∧ Fin H) ∨ (J.go i H ∧ ∃ Nx : Hp → Prop, (∀ H', Nx H' → ∃ m', m' < m ∧ W (i + 1) m' H') ∧ ∀ x H', J.yld i H x H' → B x H' Nx) := by
  refine ⟨fun i m H => m = n - i ∧ i ≤ n ∧ Pv i H, ⟨n, by simp, Nat.zero_le _, h0⟩, ?_⟩
  rintro i m H ⟨rfl, hi, p⟩
  have q := hG i H hi p
  by_cases hlt : i < n
  · exact .inr ⟨w.goes i H hlt q, Pv (i + 1), fun H' p' => ⟨n - (i + 1), by omega, rfl, hlt, p'⟩, fun x H' y => hs i x H H' hlt p (w.yields i H x H' hlt q y)⟩
  · have e : i = n := by omega
    subst e
    exact .inl ⟨w.stops H q, hd H p⟩
end SH
set_option Elab.async false
set_option linter.all false
set_option maxRecDepth 100000
set_option maxHeartbeats 4000000
/-! the ends of a house in their order, their commons -/
namespace SH
open PySem PySem.Spec PyProof.Rows L2
/-- an own loop over anything that is walked -/
theorem walk_gen {J : It} {n : Nat} {G : Hp → Prop} {Y : Nat → Hp → V → Hp → Prop} (w : Walk J n G Y) {Step : (Hp → Prop) → V → Hp → Prop} {H0 : Hp} {Qd : Hp → Prop} (Pv : Nat → Hp → Prop) (h0 : Pv 0 H0) (hG : ∀ i H, i ≤ n → Pv i H → G H)
    (hs : ∀ i x H H', i < n → Pv i H → Y i H x H' → Step (Pv (i + 1)) x H') (hd : ∀ H, Pv n H → Qd H) :
    ∃ W : Nat → Nat → Hp → Prop, (∃ m, W 0 m H0) ∧ ∀ i m H, W i m H →
      (J.stop i H ∧ Qd H) ∨ (J.go i H ∧ ∃ Nx : Hp → Prop, (∀ H', Nx H' → ∃ m', m' < m ∧ W (i + 1) m' H') ∧ ∀ x H', J.yld i H x H' → Step Nx x H') := by
  refine ⟨fun i m H => m = n - i ∧ i ≤ n ∧ Pv i H, ⟨n, by simp, Nat.zero_le _, h0⟩, ?_⟩
  rintro i m H ⟨rfl, hi, p⟩
  have q := hG i H hi p
  by_cases hlt : i < n
  · exact .inr ⟨w.goes i H hlt q, Pv (i + 1), fun H' p' => ⟨n - (i + 1), by omega, rfl, hlt, p'⟩, fun x H' y => hs i x H H' hlt p (w.yields i H x H' hlt q y)⟩
  · have e : i = n := by omega
    subst e
    exact .inl ⟨w.stops H q, hd H p⟩
/-! ### what is left of a text -/
def suf (z : Str) (s : Nat) : Str := cutS z (some (s : Int)) none
theorem suf_tl (z : Str) (s : Nat) : TL.tl (suf z s) = (TL.tl z).drop s := by
  show (z.cps.toList.drop (HT.sIx z.length 0 (some (s : Int)))).take (HT.sIx z.length z.length none - HT.sIx z.length 0 (some (s : Int))) = _
  rw [HT.sIx_nat, HT.sIx_none]
  have hl : z.cps.toList.length = z.length := rfl
  rw [List.take_of_length_le (by rw [List.length_drop, hl]; exact Nat.le_refl _)]
  rcases Nat.le_total s z.length with h | h
  · rw [Nat.min_eq_left h]
  · rw [Nat.min_eq_right h, List.drop_eq_nil_of_le (by omega)]
    exact (List.drop_eq_nil_of_le (by show z.cps.toList.length ≤ s; omega)).symm
theorem suf_len (z : Str) (s : Nat) : (suf z s).length = z.length - s := by
  have := congrArg List.length (suf_tl z s)
  rw [List.length_drop] at this
  exact this
theorem suf_let {z : Str} (h : IsLet z) (s : Nat) : IsLet (suf z s) := by
  show (TL.tl (suf z s)).all okc = true
  rw [suf_tl]
  exact List.all_eq_true.mpr fun c hc => List.all_eq_true.mp h c (List.mem_of_mem_drop hc)
/-! ### the ends -/
def endsOf (q : Int × Str) : List E3 := (List.range (q.2.length + 1)).map fun s => (suf q.2 s, q.1, (s : Int))
def ends3 (h : List (Int × Str)) : List E3 := h.flatMap endsOf
def ordE (h : List (Int × Str)) : List E3 := (ends3 h).mergeSort le3
theorem mem_endsOf {q : Int × Str} {e : E3} : e ∈ endsOf q ↔ ∃ s : Nat, s ≤ q.2.length ∧ e = (suf q.2 s, q.1, (s : Int)) := by
  unfold endsOf
  rw [List.mem_map]
  constructor
  · rintro ⟨s, hs, rfl⟩
    exact ⟨s, by have := List.mem_range.mp hs; omega, rfl⟩
  · rintro ⟨s, hs, rfl⟩
    exact ⟨s, List.mem_range.mpr (by omega), rfl⟩
theorem mem_ends3 {h : List (Int × Str)} {e : E3} : e ∈ ends3 h ↔ ∃ q ∈ h, ∃ s : Nat, s ≤ q.2.length ∧ e = (suf q.2 s, q.1, (s : Int)) := by
  unfold ends3
  rw [List.mem_flatMap]
  constructor
  · rintro ⟨q, hq, he⟩
    exact ⟨q, hq, mem_endsOf.mp he⟩
  · rintro ⟨q, hq, he⟩
    exact ⟨q, hq, mem_endsOf.mpr he⟩
theorem mem_ordE {h : List (Int × Str)} {e : E3} : e ∈ ordE h ↔ e ∈ ends3 h := (List.mergeSort_perm _ _).mem_iff
theorem endsOf_len (q : Int × Str) : (endsOf q).length = q.2.length + 1 := by
  unfold endsOf
  rw [List.length_map, List.length_range]
theorem ends3_len {m : Nat} : ∀ {h : List (Int × Str)}, (∀ q ∈ h, q.2.length ≤ m) → (ends3 h).length ≤ (m + 1) * h.length
  | [], _ => Nat.zero_le _
  | q :: r, a => by
    have e : ends3 (q :: r) = endsOf q ++ ends3 r := rfl
    rw [e, List.length_append, endsOf_len, List.length_cons, Nat.mul_add]
    have := a q (List.mem_cons_self ..)
    have := ends3_len fun x hx => a x (List.mem_cons_of_mem _ hx)
    omega
theorem ordE_len {m : Nat} {h : List (Int × Str)} (a : ∀ q ∈ h, q.2.length ≤ m) : (ordE h).length ≤ (m + 1) * h.length := by
  unfold ordE
  rw [List.length_mergeSort]
  exact ends3_len a
/-! ### commons -/
def comm : List Nat → List Nat → Nat
  | a :: x, b :: y => if a = b then comm x y + 1 else 0
  | _, _ => 0
theorem comm_le : ∀ x y : List Nat, comm x y ≤ x.length ∧ comm x y ≤ y.length
  | [], y => by unfold comm; simp
  | _ :: _, [] => by unfold comm; simp
  | a :: x, b :: y => by
    unfold comm
    have := comm_le x y
    split
    · simp only [List.length_cons]; omega
    · simp
/-- as many as are alike -/
theorem comm_at : ∀ (x y : List Nat) (i : Nat), i < comm x y → x[i]? = y[i]?
  | [], y, i, h => by simp [comm] at h
  | _ :: _, [], i, h => by simp [comm] at h
  | a :: x, b :: y, i, h => by
    unfold comm at h
    by_cases e : a = b
    · rw [if_pos e] at h
      cases i with
      | zero => simp [e]
      | succ i => simpa using comm_at x y i (by omega)
    · rw [if_neg e] at h
      omega
/-- the next ones are not -/
theorem comm_ne : ∀ (x y : List Nat) (c d : Nat), x[comm x y]? = some c → y[comm x y]? = some d → c ≠ d
  | [], y, c, d, h, _ => by simp [comm] at h
  | _ :: _, [], c, d, _, h => by simp [comm] at h
  | a :: x, b :: y, c, d, h, h2 => by
    unfold comm at h h2
    by_cases e : a = b
    · rw [if_pos e] at h h2
      exact comm_ne x y c d (by simpa using h) (by simpa using h2)
    · rw [if_neg e] at h h2
      simp at h h2
      rw [← h, ← h2]
      exact e
/-- so is the number told by these two -/
theorem comm_of {x y : List Nat} {n : Nat} (h1 : n ≤ x.length) (h2 : n ≤ y.length) (ha : ∀ i, i < n → x[i]? = y[i]?) (hn : n = x.length ∨ n = y.length ∨ x[n]? ≠ y[n]?) : comm x y = n := by
  have l := comm_le x y
  rcases Nat.lt_trichotomy (comm x y) n with h | h | h
  · exfalso
    have e1 : x[comm x y]? = some (x[comm x y]'(by omega)) := List.getElem?_eq_getElem (by omega)
    have e2 : y[comm x y]? = some (y[comm x y]'(by omega)) := List.getElem?_eq_getElem (by omega)
    have := ha _ h
    rw [e1, e2] at this
    exact comm_ne x y _ _ e1 e2 (Option.some.inj this)
  · exact h
  · exfalso
    rcases hn with e | e | e
    · omega
    · omega
    · exact e (comm_at x y n h)
def letsAt (E : List E3) (k : Nat) : List Nat := ((E[k]?).map fun e => TL.tl e.1).getD []
/-- the common of the k-th and the next -/
def cmAt (E : List E3) (k : Nat) : Int := (comm (letsAt E k) (letsAt E (k + 1)) : Nat)
def cmsE (E : List E3) : List Int := (List.range E.length).map fun k => if k = 0 then 0 else cmAt E (k - 1)
theorem cmsE_cons {E : List E3} {n : Nat} (h : E.length = n + 1) : cmsE E = 0 :: (List.range n).map (cmAt E) := by
  unfold cmsE
  rw [h, List.range_succ_eq_map, List.map_cons, List.map_map]
  rfl
theorem cmsE_len (E : List E3) : (cmsE E).length = E.length := by
  unfold cmsE
  rw [List.length_map, List.length_range]
theorem letsAt_eq {E : List E3} {k : Nat} {e : E3} (h : E[k]? = some e) : letsAt E k = TL.tl e.1 := by
  unfold letsAt
  rw [h]
  rfl
/-! ### places in the heap -/
abbrev QT := List (Addr × Int × Int)
def qrefs (R : QT) : List V := R.map fun q => V.ref q.1
def QAt (K : PySem.W.Frag) (H : Hp) (R : QT) : Prop := ∀ q ∈ R, SqT K H q.1 [.int q.2.1, .int q.2.2]
theorem QAt.same {K : PySem.W.Frag} {H H' : Hp} {R : QT} (e : Same H H') (h : QAt K H R) : QAt K H' R := fun q hq => same_tup e (h q hq)
theorem qrefs_len (R : QT) : (qrefs R).length = R.length := List.length_map ..
theorem qrefs_at {R : QT} {i : Nat} {x : V} (h : (qrefs R)[i]? = some x) : ∃ t, R[i]? = some t ∧ t ∈ R ∧ x = .ref t.1 := by
  unfold qrefs at h
  rw [List.getElem?_map] at h
  cases e : R[i]? with
  | none => rw [e] at h; cases h
  | some t =>
    rw [e] at h
    cases h
    exact ⟨t, rfl, List.mem_of_getElem? e, rfl⟩
def dP2 (q : Int × Int) : PyData := .tuple [.int q.1, .int q.2]
def dQ (l : List (Int × Int)) : PyData := .list (l.map dP2)
theorem dp_qs {K : PySem.W.Frag} {H : Hp} : ∀ (R : QT), QAt K H R → DpAll K H (qrefs R) ((R.map (·.2)).map dP2)
  | [], _ => .nil
  | q :: r, h => .cons (.tup (h q (List.mem_cons_self ..)) (.cons (.int _) (.cons (.int _) .nil))) (dp_qs r fun x m => h x (List.mem_cons_of_mem _ m))
theorem dp_q {K : PySem.W.Frag} {H : Hp} {a : Addr} {R : QT} (h : SqL K H a (qrefs R)) (hq : QAt K H R) : Dp K H (.ref a) (dQ (R.map (·.2))) := .lst h (dp_qs R hq)
theorem dQ_lay : ∀ (l : List (Int × Int)), PyData.canLayAll0 (l.map dP2) = true
  | [] => rfl
  | q :: r => by
    rw [List.map_cons, PyData.canLayAll0, dQ_lay r]
    simp [dP2, PyData.canLay0, PyData.canLayAll0]
theorem dQ_deep : ∀ (l : List (Int × Int)), PyData.depthAll (l.map dP2) ≤ 1
  | [] => Nat.zero_le _
  | q :: r => by
    rw [List.map_cons, PyData.depthAll]
    have := dQ_deep r
    have e : PyData.depth (dP2 q) = 1 := rfl
    rw [e]
    omega
theorem shaped_of {d : PyData} (h : d.canLay0 = true) (h2 : d.depth ≤ 64) : SeqAt.shaped d = true := by
  unfold SeqAt.shaped
  rw [h, decide_eq_true h2]
  rfl
theorem dQ_shaped (l : List (Int × Int)) : SeqAt.shaped (dQ l) = true := shaped_of (dQ_lay l) (by
  show PyData.depthAll (l.map dP2) + 1 ≤ 64
  have := dQ_deep l
  omega)
theorem dQ_refl (l : List (Int × Int)) : PyData.eqv (dQ l) (dQ l) = true := SeqAt.eqv_refl _ (show (dQ l).canLay0 = true from dQ_lay l)
/-! lists of numbers as data -/
def dI (l : List Int) : PyData := .list (l.map .int)
theorem dp_is {K : PySem.W.Frag} {H : Hp} : ∀ (l : List Int), DpAll K H (l.map V.int) (l.map PyData.int)
  | [] => .nil
  | _ :: r => .cons (.int _) (dp_is r)
theorem dp_i {K : PySem.W.Frag} {H : Hp} {a : Addr} {l : List Int} (h : SqL K H a (l.map V.int)) : Dp K H (.ref a) (dI l) := .lst h (dp_is l)
theorem dI_lay : ∀ (l : List Int), PyData.canLayAll0 (l.map PyData.int) = true
  | [] => rfl
  | q :: r => by
    rw [List.map_cons, PyData.canLayAll0, dI_lay r]
    simp [PyData.canLay0]
theorem dI_shaped (l : List Int) : SeqAt.shaped (dI l) = true := shaped_of (dI_lay l) (by
  show PyData.depthAll (l.map PyData.int) + 1 ≤ 64
  rw [PySem.W.depth_ints]
  decide)
theorem dI_refl (l : List Int) : PyData.eqv (dI l) (dI l) = true := SeqAt.eqv_refl _ (show (dI l).canLay0 = true from dI_lay l)
/-! ### triples in the heap, flat and nested -/
abbrev FT := List (Addr × E3)
def frefs (Z : FT) : List V := Z.map fun z => V.ref z.1
def FAt (H : Hp) (Z : FT) : Prop := ∀ z ∈ Z, H z.1 = some (.tup [.str z.2.1, .int z.2.2.1, .int z.2.2.2])
abbrev NT3 := List (Addr × Addr × E3)
def nrefs (Z : NT3) : List V := Z.map fun z => V.ref z.1
def NAt (H : Hp) (Z : NT3) : Prop := ∀ z ∈ Z, H z.1 = some (.tup [.str z.2.2.1, .ref z.2.1]) ∧ H z.2.1 = some (.tup [.int z.2.2.2.1, .int z.2.2.2.2])
theorem FAt.same {H H' : Hp} {Z : FT} (e : Same H H') (h : FAt H Z) : FAt H' Z := fun z m => e _ _ (h z m)
theorem NAt.same {H H' : Hp} {Z : NT3} (e : Same H H') (h : NAt H Z) : NAt H' Z := fun z m => ⟨e _ _ (h z m).1, e _ _ (h z m).2⟩
theorem FAt.snoc {H : Hp} {Z : FT} {z : Addr × E3} (h : FAt H Z) (hz : H z.1 = some (.tup [.str z.2.1, .int z.2.2.1, .int z.2.2.2])) : FAt H (Z ++ [z]) := fun y hy => by
  rcases List.mem_append.mp hy with m | m
  · exact h y m
  · rw [List.mem_singleton.mp m]; exact hz
theorem NAt.snoc {H : Hp} {Z : NT3} {z : Addr × Addr × E3} (h : NAt H Z) (hz : H z.1 = some (.tup [.str z.2.2.1, .ref z.2.1]) ∧ H z.2.1 = some (.tup [.int z.2.2.2.1, .int z.2.2.2.2])) : NAt H (Z ++ [z]) := fun y hy => by
  rcases List.mem_append.mp hy with m | m
  · exact h y m
  · rw [List.mem_singleton.mp m]; exact hz
/-- a list that is written lies apart from what the tuples are -/
theorem FAt.put {H : Hp} {Z : FT} {D : Addr} {l : List V} {o : HO} (h : FAt H Z) (hD : H D = some (.lst l)) : FAt (upd H D o) Z := fun z m => by
  have := h z m
  rw [upd_ne (fun e => by rw [e, hD] at this; cases this)]
  exact this
theorem NAt.put {H : Hp} {Z : NT3} {D : Addr} {l : List V} {o : HO} (h : NAt H Z) (hD : H D = some (.lst l)) : NAt (upd H D o) Z := fun z m => by
  have := h z m
  rw [upd_ne (fun e => by rw [e, hD] at this; cases this.1), upd_ne (fun e => by rw [e, hD] at this; cases this.2)]
  exact this
theorem QAt.put {K : PySem.W.Frag} {H : Hp} {R : QT} {D : Addr} {l : List V} {o : HO} (h : QAt K H R) (hD : H D = some (.lst l)) : QAt K (upd H D o) R := fun z m => but_tup (l := l) hD but_upd (h z m)
theorem sort_flat (Z : FT) : ((Z.map fun z => (V.ref z.1, z.2)).mergeSort (PySem.W.dataLe false fun z => eFlat z.2)).map (·.1) = frefs (Z.mergeSort fun p q => le3 p.2 q.2) := by
  rw [flat_le (β := V × E3) (fun z => z.2), ← List.map_mergeSort (l := Z) (f := fun z : Addr × E3 => (V.ref z.1, z.2)) (r := fun p q : Addr × E3 => le3 p.2 q.2) (s := fun p q : V × E3 => le3 p.2 q.2) (fun _ _ _ _ => rfl), List.map_map]
  rfl
theorem sort_nest (Z : NT3) : ((Z.map fun z => (V.ref z.1, z.2.2)).mergeSort (PySem.W.dataLe false fun z => eNest z.2)).map (·.1) = nrefs (Z.mergeSort fun p q => le3 p.2.2 q.2.2) := by
  rw [nest_le (β := V × E3) (fun z => z.2), ← List.map_mergeSort (l := Z) (f := fun z : Addr × Addr × E3 => (V.ref z.1, z.2.2)) (r := fun p q : Addr × Addr × E3 => le3 p.2.2 q.2.2) (s := fun p q : V × E3 => le3 p.2 q.2) (fun _ _ _ _ => rfl), List.map_map]
  rfl
theorem ends3_snoc (h : List (Int × Str)) (q : Int × Str) : ends3 (h ++ [q]) = ends3 h ++ endsOf q := by
  unfold ends3
  rw [List.flatMap_append]
  simp
theorem take_snoc {α : Type} {l : List α} {i : Nat} {x : α} (h : l[i]? = some x) : l.take (i + 1) = l.take i ++ [x] := by
  rw [List.take_add_one, h]
  rfl
theorem endsOf_at {q : Int × Str} {s : Nat} (h : s ≤ q.2.length) : (endsOf q)[s]? = some (suf q.2 s, q.1, (s : Int)) := by
  unfold endsOf
  rw [List.getElem?_map, List.getElem?_range (by omega)]
  rfl
/-- the order: a new list of new pairs -/
def spOrder (K : PySem.W.Frag) : Sp := fun vs H Q _ => ∃ (a : Addr) (L : PL), vs = [.ref a] ∧ HsAt K H a L ∧ L.length ≤ 500 ∧ (∀ q ∈ L, q.2.2.length ≤ 100) ∧
  ∀ (l : Addr) (R : QT) (H' : Hp), Same H H' → H l = none → H' l = some (.lst (qrefs R)) → QAt K H' R → R.map (·.2) = (ordE (L.map (·.2))).map (·.2) → Q (.ref l) H'
end SH
set_option Elab.async false
set_option linter.all false
set_option maxRecDepth 100000
set_option maxHeartbeats 4000000
/-! a house as a dict; slices of lists -/
namespace SH
open PySem PySem.Spec PyProof.Rows L2
namespace Dct
theorem valV_merge_out {k : Key} : ∀ (more acc : List (Key × V)), k ∉ more.map (·.1) → valV (mergeK acc more) k = valV acc k
  | [], _, _ => rfl
  | x :: r, acc, h => by
    rw [List.map_cons, List.mem_cons] at h
    show valV (mergeK (putK acc x.1 x.2) r) k = _
    rw [valV_merge_out r _ (fun z => h (.inr z)), valV_put, if_neg (fun z => h (.inl z))]
theorem valV_merge_in {k : Key} {v : V} : ∀ (more acc : List (Key × V)), (more.map (·.1)).Nodup → (k, v) ∈ more → valV (mergeK acc more) k = some v
  | x :: r, acc, nd, h => by
    rw [List.map_cons, List.nodup_cons] at nd
    show valV (mergeK (putK acc x.1 x.2) r) k = _
    rcases List.mem_cons.mp h with e | m
    · rw [← e] at nd ⊢
      rw [valV_merge_out r _ nd.1, valV_put, if_pos rfl]
    · exact valV_merge_in r _ nd.2 m
theorem take_drop_cut {z : Str} {a b : Nat} (h1 : a ≤ b) (h2 : b ≤ z.length) : TL.tl (cutS z (some (a : Int)) (some (b : Int))) = ((TL.tl z).take b).drop a := by
  show (z.cps.toList.drop (HT.sIx z.length 0 (some (a : Int)))).take (HT.sIx z.length z.length (some (b : Int)) - HT.sIx z.length 0 (some (a : Int))) = _
  rw [HT.sIx_nat, HT.sIx_nat, Nat.min_eq_left h2, Nat.min_eq_left (Nat.le_trans h1 h2), List.drop_take]
theorem paired_house {K : PySem.W.Frag} {H : Hp} : ∀ {L : PL}, PairsAt K H L → Paired (fun p (kv : Key × V) => SqT K H p [kV kv.1, kv.2]) (L.map (·.1)) (L.map fun q => ((Sum.inl q.2.1 : Key), V.str q.2.2))
  | [], _ => .nil
  | q :: r, h => .cons (h q (List.mem_cons_self ..)) (paired_house fun x m => h x (List.mem_cons_of_mem _ m))

theorem house_get {L : PL} (asc : ((L.map (·.2)).map (·.1)).Pairwise (· < ·)) {n : Int} {z : Str} (h : (n, z) ∈ L.map (·.2)) : valV (mergeK [] (L.map fun q => ((Sum.inl q.2.1 : Key), V.str q.2.2))) (.inl n) = some (.str z) := by
  obtain ⟨q, hq, e⟩ := List.mem_map.mp h
  have e1 : q.2.1 = n := congrArg Prod.fst e
  have e2 : q.2.2 = z := congrArg Prod.snd e
  subst e1 e2
  refine valV_merge_in _ _ ?_ (List.mem_map.mpr ⟨q, hq, rfl⟩)
  rw [List.map_map]
  rw [List.map_map, List.pairwise_map] at asc
  rw [List.Nodup, List.pairwise_map]
  exact asc.imp fun h e => by
    have h : _ < _ := h
    have := Sum.inl.inj e
    simp only [Function.comp] at h
    omega
theorem cut_from (xs : List V) (k : Nat) : cutV xs (some (k : Int)) none = xs.drop k := by
  unfold cutV
  rw [HT.sIx_nat, HT.sIx_none]
  rcases Nat.le_total k xs.length with h | h
  · rw [Nat.min_eq_left h, List.take_of_length_le (by rw [List.length_drop]; exact Nat.le_refl _)]
  · rw [Nat.min_eq_right h, Nat.sub_self, List.take_zero, List.drop_eq_nil_of_le h]
end Dct
end SH
set_option Elab.async false
set_option linter.all false
set_option maxRecDepth 100000
set_option maxHeartbeats 4000000
/-! the text with a number; an end told by its number and start -/
namespace SH
open PySem PySem.Spec PyProof.Rows L2
theorem refs_len (L : PL) : (refs L).length = L.length := List.length_map ..
def lk (n : Int) : List (Int × Str) → Option Str
  | [] => none
  | q :: r => if q.1 = n then some q.2 else lk n r
theorem lk_mem {n : Int} {z : Str} : ∀ {h : List (Int × Str)}, lk n h = some z → (n, z) ∈ h
  | q :: r, e => by
    unfold lk at e
    by_cases c : q.1 = n
    · rw [if_pos c] at e
      have e := Option.some.inj e
      obtain ⟨a, b⟩ := q
      subst c e
      exact List.mem_cons_self ..
    · rw [if_neg c] at e
      exact List.mem_cons_of_mem _ (lk_mem e)
theorem lk_none {n : Int} : ∀ {h : List (Int × Str)}, lk n h = none → n ∉ h.map (·.1)
  | [], _ => by simp
  | q :: r, e => by
    unfold lk at e
    by_cases c : q.1 = n
    · rw [if_pos c] at e
      cases e
    · rw [if_neg c] at e
      rw [List.map_cons, List.mem_cons, not_or]
      exact ⟨fun z => c z.symm, lk_none e⟩
theorem lk_of {n : Int} {z : Str} : ∀ {h : List (Int × Str)}, (h.map (·.1)).Pairwise (· < ·) → (n, z) ∈ h → lk n h = some z
  | q :: r, asc, m => by
    rw [List.map_cons, List.pairwise_cons] at asc
    unfold lk
    rcases List.mem_cons.mp m with e | m
    · rw [← e, if_pos rfl]
    · have := asc.1 n (List.mem_map.mpr ⟨_, m, rfl⟩)
      rw [if_neg (by omega)]
      exact lk_of asc.2 m
theorem lk_no {n : Int} {h : List (Int × Str)} (m : n ∉ h.map (·.1)) : lk n h = none := by
  cases e : lk n h with
  | none => rfl
  | some z => exact absurd (List.mem_map.mpr ⟨_, lk_mem e, rfl⟩) m
/-- dict(house) at a number -/
theorem lk_val {L : PL} (asc : ((L.map (·.2)).map (·.1)).Pairwise (· < ·)) (n : Int) : valV (mergeK [] (L.map fun q => ((Sum.inl q.2.1 : Key), V.str q.2.2))) (.inl n) = (lk n (L.map (·.2))).map V.str := by
  cases e : lk n (L.map (·.2)) with
  | some z => exact Dct.house_get asc (lk_mem e)
  | none =>
    rw [Dct.valV_merge_out _ _ (fun z => ?_)]
    · rfl
    · rw [List.map_map] at z
      obtain ⟨q, hq, e2⟩ := List.mem_map.mp z
      refine lk_none e ?_
      rw [List.map_map]
      exact List.mem_map.mpr ⟨q, hq, Sum.inl.inj e2⟩
/-- the letters of an end -/
def endS (h : List (Int × Str)) (n s : Int) : Option Str :=
  match lk n h with
  | none => none
  | some z => if 0 ≤ s ∧ s ≤ (z.length : Int) then some (suf z s.toNat) else none
theorem endS_some {h : List (Int × Str)} {n s : Int} {x : Str} (e : endS h n s = some x) : ∃ z, lk n h = some z ∧ 0 ≤ s ∧ s ≤ (z.length : Int) ∧ x = suf z s.toNat := by
  unfold endS at e
  cases c : lk n h with
  | none => rw [c] at e; cases e
  | some z =>
    rw [c] at e
    by_cases d : 0 ≤ s ∧ s ≤ (z.length : Int)
    · have e : (if 0 ≤ s ∧ s ≤ (z.length : Int) then some (suf z s.toNat) else none) = some x := e
      rw [if_pos d] at e
      exact ⟨z, rfl, d.1, d.2, (Option.some.inj e).symm⟩
    · have e : (if 0 ≤ s ∧ s ≤ (z.length : Int) then some (suf z s.toNat) else none) = some x := e
      rw [if_neg d] at e
      cases e
theorem endS_of {h : List (Int × Str)} {n s : Int} {z : Str} (e : lk n h = some z) (d : 0 ≤ s ∧ s ≤ (z.length : Int)) : endS h n s = some (suf z s.toNat) := by
  unfold endS
  rw [e]
  exact if_pos d
theorem endS_out {h : List (Int × Str)} {n s : Int} {z : Str} (e : lk n h = some z) (d : ¬ (0 ≤ s ∧ s ≤ (z.length : Int))) : endS h n s = none := by
  unfold endS
  rw [e]
  exact if_neg d
theorem endS_no {h : List (Int × Str)} {n s : Int} (e : lk n h = none) : endS h n s = none := by
  unfold endS
  rw [e]
/-- an error of the class at C with this number leaves -/
def Errs (E : XK) (H : Hp) (C : Addr) (n : Int) : Prop := ∀ (d : Addr) (H2 : Hp), Same H H2 → H d = none → H2 d = some (.xd [(("at" : Str), .int n)]) → E (.ref C) (some d) H2
theorem Errs.same {E : XK} {H H' : Hp} {C : Addr} {n : Int} (s : Same H H') (h : Errs E H C n) : Errs E H' C n := fun d H2 s2 nd e => h d H2 (s.trans s2) (s.free nd) e
end SH
set_option Elab.async false
set_option linter.all false
set_option maxRecDepth 100000
set_option maxHeartbeats 4000000
/-! ends by what they begin with; a while with its own invariant -/
namespace SH
open PySem PySem.Spec PyProof.Rows L2
theorem while_i {c : TT} {tb : TS} {D : Ends} {σ : L2.St} {H : Hp} (W : Nat → L2.St → Hp → Prop) {m : Nat} (h0 : W m σ H)
    (hs : ∀ m σ H, W m σ H → c σ H fun b H1 => if b = true then tb { D with nx := fun σ' H' => ∃ m', m' < m ∧ W m' σ' H', ct := fun σ' H' => ∃ m', m' < m ∧ W m' σ' H', bk := D.nx } σ H1 else D.nx σ H1)
    (mono : ∀ σ H Q Q', (∀ b H1, Q b H1 → Q' b H1) → c σ H Q → c σ H Q') : tWhile c tb D σ H := by
  refine ⟨W, ⟨m, h0⟩, fun m σ H w => mono σ H _ _ (fun b H1 q => ?_) (hs m σ H w)⟩
  cases b with
  | true => exact ⟨_, fun σ' H' x => x, q⟩
  | false => exact q
theorem cut_mid {z : Str} {s n : Nat} (hs : s ≤ z.length) : TL.tl (cutS z (some (s : Int)) (some ((s : Int) + (n : Int)))) = ((TL.tl z).drop s).take n := by
  have e : ((s : Int) + (n : Int)) = ((s + n : Nat) : Int) := by omega
  rw [e]
  show (z.cps.toList.drop (HT.sIx z.length 0 (some (s : Int)))).take (HT.sIx z.length z.length (some ((s + n : Nat) : Int)) - HT.sIx z.length 0 (some (s : Int))) = _
  rw [HT.sIx_nat, HT.sIx_nat, Nat.min_eq_left hs]
  have hl : z.cps.toList.length = z.length := rfl
  rcases Nat.le_total (s + n) z.length with h | h
  · rw [Nat.min_eq_left h, Nat.add_sub_cancel_left]
  · rw [Nat.min_eq_right h, List.take_of_length_le (by rw [List.length_drop, hl]; exact Nat.le_refl _)]
    exact (List.take_of_length_le (by rw [List.length_drop]; show z.length - s ≤ n; omega)).symm
/-! ### the order of lists of signs -/
theorem nl_take : ∀ (n : Nat) (x y : List Nat), ¬ y < x → ¬ y.take n < x.take n
  | 0, _, _, _ => by simp
  | n + 1, [], y, _ => by simp
  | n + 1, a :: x, [], h => absurd (List.Lex.nil : ([] : List Nat) < a :: x) h
  | n + 1, a :: x, b :: y, h => by
    rw [List.take_succ_cons, List.take_succ_cons]
    intro z
    rw [List.cons_lt_cons_iff] at z h
    rcases z with z | ⟨e, z⟩
    · exact h (.inl z)
    · exact nl_take n x y (fun q => h (.inr ⟨e, q⟩)) z
/-- cut to a word's length it is less just where it is -/
theorem take_lt : ∀ (w x : List Nat), x.take w.length < w ↔ x < w
  | [], x => by simp
  | b :: w, [] => by simp
  | b :: w, a :: x => by
    rw [List.length_cons, List.take_succ_cons, List.cons_lt_cons_iff, List.cons_lt_cons_iff, take_lt w x]
theorem take_eq_not_lt {w x : List Nat} (h : x.take w.length = w) : ¬ x < w := fun z => by
  have := (take_lt w x).mpr z
  rw [h] at this
  exact List.lt_irrefl _ this
theorem le3_letters {p q : E3} (h : le3 p q = true) : ¬ TL.tl q.1 < TL.tl p.1 := fun z => by
  unfold le3 at h
  simp only [Bool.not_eq_true', decide_eq_false_iff_not] at h
  exact h (.inl z)
/-- less than all that begin with the word, or beginning with it -/
def prW (w : Str) (b : Bool) (e : E3) : Bool := decide (TL.tl e.1 < TL.tl w) || (b && decide ((TL.tl e.1).take w.length = TL.tl w))
theorem prW_mono {w : Str} {b : Bool} {p q : E3} (h : le3 p q = true) (hq : prW w b q = true) : prW w b p = true := by
  unfold prW at *
  have n := le3_letters h
  have nt := nl_take w.length _ _ n
  rw [Bool.or_eq_true, decide_eq_true_eq] at hq ⊢
  rcases hq with hq | hq
  · refine .inl ?_
    rcases List.le_iff_lt_or_eq.mp (List.not_lt.mp n) with c | c
    · exact List.lt_trans c hq
    · rw [c]; exact hq
  · rw [Bool.and_eq_true, decide_eq_true_eq] at hq
    obtain ⟨rfl, e⟩ := hq
    rw [e] at nt
    rcases List.le_iff_lt_or_eq.mp (List.not_lt.mp nt) with c | c
    · exact .inl ((take_lt _ _).mp c)
    · refine .inr ?_
      rw [Bool.true_and, decide_eq_true_eq]
      exact c
theorem filter_cut {α : Type} {E : List α} {p : α → Bool} {n : Nat} (h1 : ∀ (i : Nat) (h : i < E.length), i < n → p E[i] = true) (h2 : ∀ (i : Nat) (h : i < E.length), n ≤ i → p E[i] = false) : E.filter p = E.take n := by
  conv => lhs; rw [← List.take_append_drop n E]
  rw [List.filter_append]
  have a : (E.take n).filter p = E.take n := List.filter_eq_self.mpr fun x hx => by
    obtain ⟨i, hi, rfl⟩ := List.getElem_of_mem hx
    rw [List.length_take] at hi
    rw [List.getElem_take]
    exact h1 i (by omega) (by omega)
  have b : (E.drop n).filter p = [] := List.filter_eq_nil_iff.mpr fun x hx => by
    obtain ⟨i, hi, rfl⟩ := List.getElem_of_mem hx
    rw [List.length_drop] at hi
    rw [List.getElem_drop, h2 (n + i) (by omega) (by omega)]
    exact Bool.false_ne_true
  rw [a, b, List.append_nil]
theorem filter_or_len {α : Type} {p q : α → Bool} : ∀ {E : List α}, (∀ x ∈ E, ¬ (p x = true ∧ q x = true)) → (E.filter fun x => p x || q x).length = (E.filter p).length + (E.filter q).length
  | [], _ => rfl
  | x :: E, h => by
    have ih := filter_or_len (p := p) (q := q) (E := E) fun y hy => h y (List.mem_cons_of_mem _ hy)
    have hx := h x (List.mem_cons_self ..)
    cases a : p x <;> cases b : q x
    · rw [List.filter_cons_of_neg (by rw [a, b]; decide), List.filter_cons_of_neg (by rw [a]; decide), List.filter_cons_of_neg (by rw [b]; decide), ih]
    · rw [List.filter_cons_of_pos (by rw [a, b]; decide), List.filter_cons_of_neg (by rw [a]; decide), List.filter_cons_of_pos (by rw [b]), List.length_cons, List.length_cons, ih]
      omega
    · rw [List.filter_cons_of_pos (by rw [a, b]; decide), List.filter_cons_of_pos (by rw [a]), List.filter_cons_of_neg (by rw [b]; decide), List.length_cons, List.length_cons, ih]
      omega
    · exact absurd ⟨a, b⟩ hx
/-- the range of a word: from this index .. -/
def rFirst (w : Str) (E : List E3) : Nat := (E.filter fun e => decide (TL.tl e.1 < TL.tl w)).length
/-- .. so many -/
def rMany (w : Str) (E : List E3) : Nat := (E.filter fun e => decide ((TL.tl e.1).take w.length = TL.tl w)).length
theorem prW_f (w : Str) (E : List E3) : (E.filter (prW w false)).length = rFirst w E := by
  unfold rFirst
  congr 2
  funext e
  unfold prW
  simp
theorem prW_t (w : Str) (E : List E3) : (E.filter (prW w true)).length = rFirst w E + rMany w E := by
  unfold rFirst rMany
  rw [← filter_or_len (E := E) fun e _ h => ?_]
  · rfl
  · rw [decide_eq_true_eq, decide_eq_true_eq] at h
    exact take_eq_not_lt h.2 h.1
theorem ordE_pw (h : List (Int × Str)) : (ordE h).Pairwise (fun p q => le3 p q = true) := sort3_pw _
theorem pw_at {α : Type} {r : α → α → Prop} {E : List α} (h : E.Pairwise r) (hr : ∀ x, r x x) {i j : Nat} (hi : i < E.length) (hj : j < E.length) (l : i ≤ j) : r E[i] E[j] := by
  rcases Nat.lt_or_ge i j with c | c
  · exact List.pairwise_iff_getElem.mp h i j hi hj c
  · have : i = j := by omega
    subst this
    exact hr _
theorem le3_refl (p : E3) : le3 p p = true := by
  unfold le3
  rw [decide_eq_false (lex3_irrefl p)]
  rfl
end SH
set_option Elab.async false
set_option linter.all false
set_option maxRecDepth 100000
set_option maxHeartbeats 4000000
/-! tuples of data -/
namespace SH
open PySem PySem.Spec PyProof.Rows L2
def Okd (d : PyData) : Prop := d.canLay0 = true ∧ d.depth ≤ 60
theorem okd_int (n : Int) : Okd (.int n) := ⟨rfl, Nat.zero_le _⟩
theorem okd_str {z : Str} (h : PyData.strOk z = true) : Okd (.str z) := ⟨h, Nat.zero_le _⟩
theorem okd_non : Okd .none := ⟨rfl, Nat.zero_le _⟩
theorem okd_bool (b : Bool) : Okd (.bool b) := ⟨rfl, Nat.zero_le _⟩
theorem okd_H {h : List (Int × Str)} (a : LetAll h) : Okd (dH h) := ⟨dH_lay a, dH_depth h⟩
theorem okd_Q (l : List (Int × Int)) : Okd (dQ l) := ⟨dQ_lay l, by show PyData.depthAll (l.map dP2) + 1 ≤ 60; have := dQ_deep l; omega⟩
theorem okd_I (l : List Int) : Okd (dI l) := ⟨dI_lay l, by show PyData.depthAll (l.map PyData.int) + 1 ≤ 60; rw [PySem.W.depth_ints]; decide⟩
theorem okd_P2 (q : Int × Int) : Okd (dP2 q) := ⟨rfl, by show 1 ≤ 60; decide⟩
/-- data are equal to themselves -/
theorem okd_sh {d : PyData} (h : Okd d) : SeqAt.shaped d = true ∧ PyData.eqv d d = true := ⟨shaped_of h.1 (by have := h.2; omega), SeqAt.eqv_refl _ h.1⟩
theorem dp_p2 {K : PySem.W.Frag} {H : Hp} {t : Addr} {n m : Int} (h : H t = some (.tup [.int n, .int m])) : Dp K H (.ref t) (dP2 (n, m)) := .tup (.inl (.inl h)) (.cons (.int _) (.cons (.int _) .nil))
theorem lay_all : ∀ {ds : List PyData}, (∀ d ∈ ds, d.canLay0 = true) → PyData.canLayAll0 ds = true
  | [], _ => rfl
  | d :: r, h => by
    rw [PyData.canLayAll0, h d (List.mem_cons_self ..), lay_all fun x m => h x (List.mem_cons_of_mem _ m)]
    rfl
theorem deep_all {n : Nat} : ∀ {ds : List PyData}, (∀ d ∈ ds, d.depth ≤ n) → PyData.depthAll ds ≤ n
  | [], _ => Nat.zero_le _
  | d :: r, h => by
    rw [PyData.depthAll]
    have := h d (List.mem_cons_self ..)
    have := deep_all fun x m => h x (List.mem_cons_of_mem _ m)
    omega
theorem okd_tup {ds : List PyData} (h : ∀ d ∈ ds, d.canLay0 = true) (h2 : ∀ d ∈ ds, d.depth ≤ 59) : Okd (.tuple ds) := ⟨lay_all h, by
  show PyData.depthAll ds + 1 ≤ 60
  have := deep_all h2
  omega⟩
theorem okd_list {ds : List PyData} (h : ∀ d ∈ ds, d.canLay0 = true) (h2 : ∀ d ∈ ds, d.depth ≤ 59) : Okd (.list ds) := ⟨lay_all h, by
  show PyData.depthAll ds + 1 ≤ 60
  have := deep_all h2
  omega⟩
theorem dH_d (h : List (Int × Str)) : (dH h).depth ≤ 2 := by
  show PyData.depthAll (h.map dPair) + 1 ≤ 2
  have := dH_deep h
  omega
theorem dQ_d (l : List (Int × Int)) : (dQ l).depth ≤ 2 := by
  show PyData.depthAll (l.map dP2) + 1 ≤ 2
  have := dQ_deep l
  omega
theorem dI_d (l : List Int) : (dI l).depth ≤ 1 := by
  show PyData.depthAll (l.map PyData.int) + 1 ≤ 1
  rw [PySem.W.depth_ints]
  decide
/-- a tuple of a house and its order -/
theorem okd_HQ {h : List (Int × Str)} (a : LetAll h) (l : List (Int × Int)) : Okd (.tuple [dH h, dQ l]) := okd_tup (fun d m => by
  simp only [List.mem_cons, List.not_mem_nil, or_false] at m
  rcases m with rfl | rfl
  · exact dH_lay a
  · exact dQ_lay l) fun d m => by
  simp only [List.mem_cons, List.not_mem_nil, or_false] at m
  rcases m with rfl | rfl
  · exact Nat.le_trans (dH_d h) (by decide)
  · exact Nat.le_trans (dQ_d l) (by decide)
theorem okd_HQI {h : List (Int × Str)} (a : LetAll h) (l : List (Int × Int)) (c : List Int) : Okd (.tuple [dH h, dQ l, dI c]) := okd_tup (fun d m => by
  simp only [List.mem_cons, List.not_mem_nil, or_false] at m
  rcases m with rfl | rfl | rfl
  · exact dH_lay a
  · exact dQ_lay l
  · exact dI_lay c) fun d m => by
  simp only [List.mem_cons, List.not_mem_nil, or_false] at m
  rcases m with rfl | rfl | rfl
  · exact Nat.le_trans (dH_d h) (by decide)
  · exact Nat.le_trans (dQ_d l) (by decide)
  · exact Nat.le_trans (dI_d c) (by decide)
end SH
set_option Elab.async false
set_option linter.all false
set_option maxRecDepth 100000
set_option maxHeartbeats 4000000
/-! the places of a word; pairs sorted -/
namespace SH
open PySem PySem.Spec PyProof.Rows L2
def e2 (q : Int × Int) : E3 := ("", q)
theorem p2_le {β : Type} (f : β → Int × Int) : PySem.W.dataLe false (fun b => dP2 (f b)) = fun p q => le3 (e2 (f p)) (e2 (f q)) := by
  funext p q
  show (!PySem.W.dataLt (dP2 (f q)) (dP2 (f p))) = _
  unfold dP2
  rw [PySem.W.dataLt_ii]
  unfold le3 lex3 e2
  congr 1
  refine decide_eq_decide.mpr ⟨fun h => .inr ⟨rfl, h⟩, fun h => h.elim (fun h => absurd h (List.lt_irrefl _)) fun h => h.2⟩
theorem sort_q (R : QT) : ((R.map fun z => (V.ref z.1, z.2)).mergeSort (PySem.W.dataLe false fun z => dP2 z.2)).map (·.1) = qrefs (R.mergeSort fun p q => le3 (e2 p.2) (e2 q.2)) := by
  rw [p2_le (β := V × Int × Int) (fun z => z.2), ← List.map_mergeSort (l := R) (f := fun z : Addr × Int × Int => (V.ref z.1, z.2)) (r := fun p q : Addr × Int × Int => le3 (e2 p.2) (e2 q.2)) (s := fun p q : V × Int × Int => le3 (e2 p.2) (e2 q.2)) (fun _ _ _ _ => rfl), List.map_map]
  rfl
theorem p2_alike {β : Type} (f : β → Int × Int) (bs : List β) : PySem.W.AllAlike (bs.map fun b => dP2 (f b)) := PySem.W.AllAlike.of fun b b' => by simp [dP2, PySem.W.alike, PySem.W.alikeAll]
theorem p2_able {β : Type} (f : β → Int × Int) (bs : List β) : PySem.W.Sortable (bs.map fun b => dP2 (f b)) := PySem.W.Sortable.tuples fun b => ⟨_, _, rfl⟩
theorem p2_deep (p : Int × Int) : (dP2 p).depth ≤ 60 := by
  show max 0 (max 0 0) + 1 ≤ 60
  decide
/-- pairs ascending -/
def Asc2 (l : List (Int × Int)) : Prop := (l.map e2).Pairwise (fun p q => le3 p q = true)
theorem sort_q_is {R : QT} {l : List (Int × Int)} (hp : (R.map (·.2)).Perm l) (ha : Asc2 l) : (R.mergeSort fun p q => le3 (e2 p.2) (e2 q.2)).map (·.2) = l := by
  have h1 : ((R.mergeSort fun p q => le3 (e2 p.2) (e2 q.2)).map fun z => e2 z.2) = l.map e2 := by
    refine sorted3_uniq (((List.mergeSort_perm _ _).map _).trans ?_) ?_ ha
    · have := hp.map e2
      rw [List.map_map] at this
      exact this
    · rw [List.pairwise_map]
      exact List.pairwise_mergeSort (le := fun p q : Addr × Int × Int => le3 (e2 p.2) (e2 q.2)) (fun p q r => le3_tr (e2 p.2) (e2 q.2) (e2 r.2)) (fun p q => le3_tot (e2 p.2) (e2 q.2)) R
  have h2 := congrArg (List.map (fun e : E3 => e.2)) h1
  rw [List.map_map, List.map_map] at h2
  have i1 : ((fun e : E3 => e.2) ∘ fun z : Addr × Int × Int => e2 z.2) = fun z => z.2 := rfl
  have i2 : ((fun e : E3 => e.2) ∘ e2) = id := rfl
  rw [i1, i2, List.map_id] at h2
  exact h2
/-! ### where a word stands -/
def standsP (w : Str) (z : Str) (s : Nat) : Bool := decide (((TL.tl z).drop s).take w.length = TL.tl w)
def plcOf (w : Str) (q : Int × Str) : List (Int × Int) := ((List.range (q.2.length + 1)).filter (standsP w q.2)).map fun s : Nat => (q.1, (s : Int))
def plc (h : List (Int × Str)) (w : Str) : List (Int × Int) := h.flatMap (plcOf w)
theorem stands_le {w z : Str} {s : Nat} (h : standsP w z s = true) (hs : s ≤ z.length) : s + w.length ≤ z.length := by
  have e := congrArg List.length (of_decide_eq_true h)
  rw [List.length_take, List.length_drop] at e
  have e1 : (TL.tl z).length = z.length := rfl
  have e2 : (TL.tl w).length = w.length := rfl
  omega
theorem range_cut {n k : Nat} {p : Nat → Bool} (h : ∀ s, s ≤ n → p s = true → s + k ≤ n) : (List.range (n + 1)).filter p = (List.range (n + 1 - k)).filter p := by
  rcases Nat.le_total k (n + 1) with c | c
  · have e : n + 1 = (n + 1 - k) + k := by omega
    conv => lhs; rw [e, List.range_add, List.filter_append]
    have : ((List.range k).map (fun x => n + 1 - k + x)).filter p = [] := List.filter_eq_nil_iff.mpr fun x hx hp => by
      obtain ⟨y, hy, rfl⟩ := List.mem_map.mp hx
      have := List.mem_range.mp hy
      have := h _ (by omega) hp
      omega
    rw [this, List.append_nil]
  · rw [show n + 1 - k = 0 by omega]
    show _ = []
    refine List.filter_eq_nil_iff.mpr fun x hx hp => ?_
    have := List.mem_range.mp hx
    have := h x (by omega) hp
    omega
theorem plcOf_cut (w : Str) (q : Int × Str) : plcOf w q = ((List.range (q.2.length + 1 - w.length)).filter (standsP w q.2)).map fun s : Nat => (q.1, (s : Int)) := by
  unfold plcOf
  rw [range_cut fun s hs hp => stands_le hp hs]
theorem plc_snoc (h : List (Int × Str)) (q : Int × Str) (w : Str) : plc (h ++ [q]) w = plc h w ++ plcOf w q := by
  unfold plc
  rw [List.flatMap_append]
  simp
/-- an end begins with the word -/
def begP (w : Str) (e : E3) : Bool := decide ((TL.tl e.1).take w.length = TL.tl w)
theorem plc_ends (w : Str) : ∀ (h : List (Int × Str)), ((ends3 h).filter (begP w)).map (·.2) = plc h w
  | [] => rfl
  | q :: r => by
    have e : ends3 (q :: r) = endsOf q ++ ends3 r := rfl
    have e2 : plc (q :: r) w = plcOf w q ++ plc r w := rfl
    rw [e, e2, List.filter_append, List.map_append, plc_ends w r]
    congr 1
    unfold endsOf plcOf
    rw [List.filter_map, List.map_map]
    have : (begP w ∘ fun s : Nat => (suf q.2 s, q.1, (s : Int))) = standsP w q.2 := by
      funext s
      show decide ((TL.tl (suf q.2 s)).take w.length = TL.tl w) = decide _
      rw [suf_tl]
    rw [this]
    rfl
theorem plcOf_asc (w : Str) (q : Int × Str) : ((plcOf w q).map e2).Pairwise (fun a b => le3 a b = true) := by
  unfold plcOf
  rw [List.map_map, List.pairwise_map]
  refine (List.Pairwise.filter _ (List.pairwise_lt_range (n := q.2.length + 1))).imp fun {a b} l => ?_
  unfold le3
  simp only [Bool.not_eq_true', decide_eq_false_iff_not]
  rintro (z | ⟨_, z | ⟨_, z⟩⟩)
  · exact List.lt_irrefl _ z
  · have : q.1 < q.1 := z
    omega
  · have : (b : Int) < (a : Int) := z
    omega
theorem mem_plcOf {w : Str} {q : Int × Str} {x : Int × Int} (h : x ∈ plcOf w q) : x.1 = q.1 ∧ ∃ s : Nat, x.2 = s ∧ s ≤ q.2.length ∧ standsP w q.2 s = true := by
  unfold plcOf at h
  obtain ⟨s, hs, rfl⟩ := List.mem_map.mp h
  obtain ⟨h1, h2⟩ := List.mem_filter.mp hs
  exact ⟨rfl, s, rfl, by have := List.mem_range.mp h1; omega, h2⟩
theorem plc_asc (w : Str) : ∀ {h : List (Int × Str)}, (h.map (·.1)).Pairwise (· < ·) → Asc2 (plc h w)
  | [], _ => List.Pairwise.nil
  | q :: r, asc => by
    rw [List.map_cons, List.pairwise_cons] at asc
    have ih := plc_asc w asc.2
    show ((plcOf w q ++ plc r w).map e2).Pairwise _
    rw [List.map_append, List.pairwise_append]
    refine ⟨plcOf_asc w q, ih, fun a ha b hb => ?_⟩
    obtain ⟨x, hx, rfl⟩ := List.mem_map.mp ha
    obtain ⟨y, hy, rfl⟩ := List.mem_map.mp hb
    obtain ⟨t, ht, hy⟩ := List.mem_flatMap.mp hy
    have l := asc.1 t.1 (List.mem_map_of_mem ht)
    have l1 := (mem_plcOf hx).1
    have l2 := (mem_plcOf hy).1
    unfold le3
    simp only [Bool.not_eq_true', decide_eq_false_iff_not]
    rintro (z | ⟨_, z | ⟨z, _⟩⟩)
    · exact List.lt_irrefl _ z
    · have : y.1 < x.1 := z
      omega
    · have : y.1 = x.1 := z
      omega
/-! ### the part of the order in a word's range -/
theorem anti_filter {α : Type} {p : α → Bool} : ∀ {E : List α}, E.Pairwise (fun a b => p b = true → p a = true) → E = E.filter p ++ E.filter fun x => !p x
  | [], _ => rfl
  | x :: E, h => by
    rw [List.pairwise_cons] at h
    cases c : p x with
    | true =>
      rw [List.filter_cons_of_pos c, List.filter_cons_of_neg (by rw [c]; decide), List.cons_append, ← anti_filter h.2]
    | false =>
      have no : ∀ y ∈ x :: E, p y = false := fun y hy => by
        rcases List.mem_cons.mp hy with e | m
        · rw [e]; exact c
        · cases d : p y with
          | false => rfl
          | true => rw [h.1 y m d] at c; cases c
      rw [List.filter_eq_nil_iff.mpr fun y hy => by rw [no y hy]; decide, List.nil_append]
      exact (List.filter_eq_self.mpr fun y hy => by rw [no y hy]; rfl).symm
theorem filter_take {α : Type} {p : α → Bool} {E : List α} (h : E.Pairwise (fun a b => p b = true → p a = true)) : E.take (E.filter p).length = E.filter p ∧ E.drop (E.filter p).length = E.filter fun x => !p x := by
  have e := anti_filter h
  generalize E.filter p = A at e ⊢
  generalize (E.filter fun x => !p x) = B at e ⊢
  subst e
  exact ⟨List.take_left, List.drop_left⟩
theorem rng_cut {E : List E3} (pw : E.Pairwise (fun p q => le3 p q = true)) (w : Str) : (E.drop (rFirst w E)).take (rMany w E) = E.filter (begP w) ∧ E.take (rFirst w E) = E.filter (prW w false) ∧ (E.drop (rFirst w E + rMany w E)) = E.filter (fun e => !prW w true e) := by
  have a1 := filter_take (p := prW w false) (pw.imp fun {a b} h => prW_mono h)
  rw [prW_f] at a1
  have a2 := filter_take (p := prW w true) (pw.imp fun {a b} h => prW_mono h)
  rw [prW_t] at a2
  have m : ((E.filter fun x => !prW w false x).filter (prW w true)) = E.filter (begP w) := by
    rw [List.filter_filter]
    congr 1
    funext e
    unfold prW begP
    cases c : decide ((TL.tl e.1).take w.length = TL.tl w) with
    | true =>
      rw [decide_eq_false (take_eq_not_lt (of_decide_eq_true c))]
      rfl
    | false =>
      cases decide (TL.tl e.1 < TL.tl w) <;> rfl
  have a3 := filter_take (p := prW w true) (E := E.filter fun x => !prW w false x) ((pw.filter _).imp fun {a b} h => prW_mono h)
  rw [m] at a3
  have l : (E.filter (begP w)).length = rMany w E := rfl
  rw [l] at a3
  refine ⟨?_, a1.1, a2.2⟩
  rw [a1.2]
  exact a3.1
theorem comm_take : ∀ (n : Nat) (x y : List Nat), n ≤ comm x y → x.take n = y.take n
  | 0, _, _, _ => by simp
  | n + 1, [], y, h => by simp [comm] at h
  | n + 1, _ :: _, [], h => by simp [comm] at h
  | n + 1, a :: x, b :: y, h => by
    unfold comm at h
    by_cases e : a = b
    · rw [if_pos e] at h
      rw [List.take_succ_cons, List.take_succ_cons, e, comm_take n x y (by omega)]
    · rw [if_neg e] at h
      omega
theorem take_comm : ∀ (n : Nat) (x y : List Nat), n ≤ x.length → n ≤ y.length → x.take n = y.take n → n ≤ comm x y
  | 0, _, _, _, _, _ => Nat.zero_le _
  | n + 1, [], y, h, _, _ => by simp at h
  | n + 1, _ :: _, [], _, h, _ => by simp at h
  | n + 1, a :: x, b :: y, h1, h2, e => by
    rw [List.take_succ_cons, List.take_succ_cons] at e
    unfold comm
    rw [if_pos (List.cons.inj e).1]
    have := take_comm n x y (by simpa using h1) (by simpa using h2) (List.cons.inj e).2
    omega
/-- all places of the word: a new list -/
def spPlaces (K : PySem.W.Frag) : Sp := fun vs H Q _ => ∃ (a : Addr) (L : PL) (wd : Str), vs = [.ref a, .str wd] ∧ HsAt K H a L ∧ L.length ≤ 500 ∧ (∀ q ∈ L, q.2.2.length ≤ 100) ∧ wd.length ≤ 1000 ∧
  ∀ (l : Addr) (R : QT) (H' : Hp), Same H H' → H l = none → H' l = some (.lst (qrefs R)) → QAt K H' R → R.map (·.2) = plc (L.map (·.2)) wd → Q (.ref l) H'
theorem plcOf_len (w : Str) (q : Int × Str) : (plcOf w q).length ≤ q.2.length + 1 := by
  unfold plcOf
  rw [List.length_map]
  refine Nat.le_trans (List.length_filter_le _ _) ?_
  rw [List.length_range]
  exact Nat.le_refl _
theorem plc_len {m : Nat} {w : Str} : ∀ {h : List (Int × Str)}, (∀ q ∈ h, q.2.length ≤ m) → (plc h w).length ≤ (m + 1) * h.length
  | [], _ => Nat.zero_le _
  | q :: r, a => by
    have e : plc (q :: r) w = plcOf w q ++ plc r w := rfl
    rw [e, List.length_append, List.length_cons, Nat.mul_add]
    have := a q (List.mem_cons_self ..)
    have := plcOf_len w q
    have := plc_len (w := w) fun x hx => a x (List.mem_cons_of_mem _ hx)
    omega
end SH
set_option Elab.async false
set_option linter.all false
set_option maxRecDepth 100000
set_option maxHeartbeats 4000000
/-! the different stretches, counted by the order and its commons; the least of the commons -/
namespace SH
open PySem PySem.Spec PyProof.Rows L2
/-! ### tables whose keys are what has been put -/
section
variable {κ : Type} [DecidableEq κ]
theorem keys_putK (kvs : List (κ × V)) (k : κ) (v : V) : (putK kvs k v).map (·.1) = if k ∈ kvs.map (·.1) then kvs.map (·.1) else kvs.map (·.1) ++ [k] := by
  unfold putK
  by_cases h : k ∈ kvs.map (·.1)
  · rw [if_pos h, if_pos]
    · rw [List.map_map]
      refine List.map_congr_left fun x _ => ?_
      show (if x.1 = k then (x.1, v) else x).1 = x.1
      split <;> rfl
    · obtain ⟨x, hx, e⟩ := List.mem_map.mp h
      exact List.any_eq_true.mpr ⟨x, hx, decide_eq_true e⟩
  · rw [if_neg h, if_neg, List.map_append]
    · rfl
    · intro z
      obtain ⟨x, hx, e⟩ := List.any_eq_true.mp z
      exact h (List.mem_map.mpr ⟨x, hx, of_decide_eq_true e⟩)
theorem keys_put_nd {kvs : List (κ × V)} {k : κ} {v : V} (h : (kvs.map (·.1)).Nodup) : ((putK kvs k v).map (·.1)).Nodup := by
  rw [keys_putK]
  split
  · exact h
  · rename_i n
    rw [List.nodup_append]
    exact ⟨h, by simp, fun a ha b hb e => by rw [List.mem_singleton.mp hb] at e; exact n (e ▸ ha)⟩
theorem keys_put_mem {kvs : List (κ × V)} {k j : κ} {v : V} : j ∈ (putK kvs k v).map (·.1) ↔ j ∈ kvs.map (·.1) ∨ j = k := by
  rw [keys_putK]
  split
  · rename_i h
    exact ⟨.inl, fun z => z.elim id fun e => e ▸ h⟩
  · rw [List.mem_append, List.mem_singleton]
end
theorem nd_len {α : Type} [DecidableEq α] {l m : List α} (h1 : l.Nodup) (h2 : m.Nodup) (h : ∀ x, x ∈ l ↔ x ∈ m) : l.length = m.length :=
  Nat.le_antisymm (List.Nodup.length_le_of_subset h1 fun x hx => (h x).mp hx) (List.Nodup.length_le_of_subset h2 fun x hx => (h x).mpr hx)
/-! ### beginnings -/
def isPre (p x : List Nat) : Prop := p ≠ [] ∧ x.take p.length = p
theorem isPre_len {p x : List Nat} (h : isPre p x) : p.length ≤ x.length := by
  have := congrArg List.length h.2
  rw [List.length_take] at this
  omega
/-- what the first and the last begin with, all between do -/
theorem between {x y z p : List Nat} (h1 : ¬ y < x) (h2 : ¬ z < y) (a : x.take p.length = p) (b : z.take p.length = p) : y.take p.length = p := by
  have c1 := nl_take p.length x y h1
  have c2 := nl_take p.length y z h2
  rw [a] at c1
  rw [b] at c2
  exact List.le_antisymm (List.not_lt.mp c2) (List.not_lt.mp c1)
def newP (a x : List Nat) : List (List Nat) := (List.range (x.length - comm a x)).map fun k => x.take (comm a x + k + 1)
def allP : List Nat → List (List Nat) → List (List Nat)
  | _, [] => []
  | a, x :: r => newP a x ++ allP x r
theorem mem_newP {a x p : List Nat} : p ∈ newP a x ↔ isPre p x ∧ ¬ isPre p a := by
  have cl := comm_le a x
  unfold newP
  rw [List.mem_map]
  constructor
  · rintro ⟨k, hk, rfl⟩
    have hk := List.mem_range.mp hk
    have l : (x.take (comm a x + k + 1)).length = comm a x + k + 1 := by rw [List.length_take]; omega
    refine ⟨⟨fun z => ?_, by rw [l]⟩, fun z => ?_⟩
    · rw [z] at l
      simp at l
    · have z2 := z.2
      rw [l] at z2
      have ll := congrArg List.length z2
      rw [l, List.length_take] at ll
      have := take_comm (comm a x + k + 1) a x (by omega) (by omega) z2
      omega
  · rintro ⟨h1, h2⟩
    have l1 := isPre_len h1
    have p0 : 0 < p.length := List.length_pos_iff.mpr h1.1
    have lt : comm a x < p.length := by
      rcases Nat.lt_or_ge (comm a x) p.length with c | c
      · exact c
      · have := comm_take _ _ _ c
        exact absurd ⟨h1.1, by rw [this]; exact h1.2⟩ h2
    refine ⟨p.length - comm a x - 1, List.mem_range.mpr (by omega), ?_⟩
    rw [show comm a x + (p.length - comm a x - 1) + 1 = p.length by omega]
    exact h1.2
theorem newP_nd (a x : List Nat) : (newP a x).Nodup := by
  have cl := comm_le a x
  unfold newP
  rw [List.Nodup, List.pairwise_map]
  refine (List.pairwise_lt_range (n := x.length - comm a x)).imp_of_mem fun {i j} hi hj l e => ?_
  have hi := List.mem_range.mp hi
  have hj := List.mem_range.mp hj
  have := congrArg List.length e
  rw [List.length_take, List.length_take] at this
  omega
theorem mem_allP : ∀ {a : List Nat} {W : List (List Nat)} {p : List Nat}, (a :: W).Pairwise (fun x y => ¬ y < x) → (p ∈ allP a W ↔ (∃ x ∈ W, isPre p x) ∧ ¬ isPre p a)
  | a, [], p, _ => by simp [allP]
  | a, x :: r, p, pw => by
    rw [List.pairwise_cons] at pw
    have ih := mem_allP (p := p) pw.2
    have pw2 := pw.2
    rw [List.pairwise_cons] at pw2
    show p ∈ newP a x ++ allP x r ↔ _
    rw [List.mem_append, mem_newP, ih]
    constructor
    · rintro (⟨h1, h2⟩ | ⟨⟨y, hy, h1⟩, h2⟩)
      · exact ⟨⟨x, List.mem_cons_self .., h1⟩, h2⟩
      · refine ⟨⟨y, List.mem_cons_of_mem _ hy, h1⟩, fun z => h2 ⟨h1.1, ?_⟩⟩
        exact between (pw.1 x (List.mem_cons_self ..)) (pw2.1 y hy) z.2 h1.2
    · rintro ⟨⟨y, hy, h1⟩, h2⟩
      by_cases c : isPre p x
      · exact .inl ⟨c, h2⟩
      · rcases List.mem_cons.mp hy with e | m
        · rw [e] at h1
          exact absurd h1 c
        · exact .inr ⟨⟨y, m, h1⟩, c⟩
theorem allP_nd : ∀ {a : List Nat} {W : List (List Nat)}, (a :: W).Pairwise (fun x y => ¬ y < x) → (allP a W).Nodup
  | _, [], _ => List.nodup_nil
  | a, x :: r, pw => by
    rw [List.pairwise_cons] at pw
    show (newP a x ++ allP x r).Nodup
    rw [List.nodup_append]
    refine ⟨newP_nd a x, allP_nd pw.2, fun p h1 q h2 e => ?_⟩
    subst e
    exact ((mem_allP pw.2).mp h2).2 (mem_newP.mp h1).1
def cmL : List Nat → List (List Nat) → List Int
  | _, [] => []
  | a, x :: r => (comm a x : Nat) :: cmL x r
theorem allP_len : ∀ (a : List Nat) (W : List (List Nat)), ((allP a W).length : Int) = (W.map fun x => (x.length : Int)).sum - (cmL a W).sum
  | _, [] => rfl
  | a, x :: r => by
    have cl := comm_le a x
    have ih := allP_len x r
    show ((newP a x ++ allP x r).length : Int) = ((x.length : Int) + (r.map fun x => (x.length : Int)).sum) - (((comm a x : Nat) : Int) + (cmL x r).sum)
    have l : (newP a x).length = x.length - comm a x := by unfold newP; rw [List.length_map, List.length_range]
    rw [List.length_append, l, Int.natCast_add, ih]
    omega
theorem cmL_at : ∀ (W : List (List Nat)) (a : List Nat) (k : Nat), (cmL a W)[k]? = (W[k]?).map fun x => ((comm (if k = 0 then a else (W[k - 1]?).getD []) x : Nat) : Int)
  | [], _, _ => by simp [cmL]
  | x :: r, a, 0 => rfl
  | x :: r, a, k + 1 => by
    show (cmL x r)[k]? = _
    rw [cmL_at r x k]
    show (r[k]?).map _ = (r[k]?).map _
    congr 1
    funext y
    cases k with
    | zero => rfl
    | succ k => rfl
theorem letsAt_map (E : List E3) (k : Nat) : letsAt E k = ((E.map fun e => TL.tl e.1)[k]?).getD [] := by
  unfold letsAt
  rw [List.getElem?_map]
theorem cmsE_cmL (E : List E3) : cmsE E = cmL [] (E.map fun e => TL.tl e.1) := by
  refine List.ext_getElem? fun k => ?_
  rw [cmL_at, show (E.map fun e => TL.tl e.1)[k]? = (E[k]?).map fun e => TL.tl e.1 from List.getElem?_map ..]
  unfold cmsE
  rw [List.getElem?_map]
  rcases Nat.lt_or_ge k E.length with h | h
  · rw [List.getElem?_range h, List.getElem?_eq_getElem h]
    show some _ = some _
    congr 1
    by_cases c : k = 0
    · rw [if_pos c]
      show (if k = 0 then (0 : Int) else cmAt E (k - 1)) = ((comm [] _ : Nat) : Int)
      rw [if_pos c]
      simp [comm]
    · rw [if_neg c]
      show (if k = 0 then (0 : Int) else cmAt E (k - 1)) = ((comm _ _ : Nat) : Int)
      rw [if_neg c]
      unfold cmAt
      rw [letsAt_map, show k - 1 + 1 = k by omega, letsAt_eq (List.getElem?_eq_getElem h)]
  · rw [List.getElem?_eq_none (by rw [List.length_range]; exact h), List.getElem?_eq_none h]
    rfl
/-- a stretch of the house -/
def isStr (h : List (Int × Str)) (p : List Nat) : Prop := ∃ q ∈ h, ∃ s : Nat, s ≤ q.2.length ∧ isPre p ((TL.tl q.2).drop s)
theorem ordE_lets (h : List (Int × Str)) : (([] : List Nat) :: (ordE h).map fun e => TL.tl e.1).Pairwise (fun x y => ¬ y < x) := by
  rw [List.pairwise_cons]
  refine ⟨fun x _ z => (by cases z), ?_⟩
  rw [List.pairwise_map]
  exact (ordE_pw h).imp fun h => le3_letters h
theorem mem_strs {h : List (Int × Str)} {p : List Nat} : p ∈ allP [] ((ordE h).map fun e => TL.tl e.1) ↔ isStr h p := by
  rw [mem_allP (ordE_lets h)]
  constructor
  · rintro ⟨⟨x, hx, hp⟩, _⟩
    obtain ⟨e, he, rfl⟩ := List.mem_map.mp hx
    obtain ⟨q, hq, s, hs, rfl⟩ := mem_ends3.mp (mem_ordE.mp he)
    rw [show TL.tl (suf q.2 s, q.1, (s : Int)).1 = (TL.tl q.2).drop s from suf_tl _ _] at hp
    exact ⟨q, hq, s, hs, hp⟩
  · rintro ⟨q, hq, s, hs, hp⟩
    refine ⟨⟨_, List.mem_map.mpr ⟨_, mem_ordE.mpr (mem_ends3.mpr ⟨q, hq, s, hs, rfl⟩), rfl⟩, ?_⟩, fun z => ?_⟩
    · show isPre p (TL.tl (suf q.2 s))
      rw [suf_tl]
      exact hp
    · have := isPre_len z
      exact z.1 (List.eq_nil_of_length_eq_zero (by simpa using this))
/-- how many -/
def strN (h : List (Int × Str)) : Nat := (allP [] ((ordE h).map fun e => TL.tl e.1)).length
theorem strN_eq (h : List (Int × Str)) : (strN h : Int) = ((ordE h).map fun e => (e.1.length : Int)).sum - (cmsE (ordE h)).sum := by
  unfold strN
  rw [allP_len, ← cmsE_cmL, List.map_map]
  rfl
/-- any list of all stretches, each once, has as many -/
theorem strN_of {h : List (Int × Str)} {l : List (List Nat)} (nd : l.Nodup) (hm : ∀ p, p ∈ l ↔ isStr h p) : l.length = strN h :=
  nd_len nd (allP_nd (ordE_lets h)) fun p => (hm p).trans mem_strs.symm
/-! ### the common of two ends that are not neighbours -/
theorem comm_mid {x y z : List Nat} (h1 : ¬ y < x) (h2 : ¬ z < y) : comm x z ≤ comm x y ∧ comm x z ≤ comm y z := by
  have l := comm_le x z
  have e := comm_take (comm x z) x z (Nat.le_refl _)
  have pl : (x.take (comm x z)).length = comm x z := by rw [List.length_take]; omega
  have b : y.take (comm x z) = x.take (comm x z) := by
    have := between (p := x.take (comm x z)) h1 h2 (by rw [pl]) (by rw [pl]; exact e.symm)
    rw [pl] at this
    exact this
  have yl : comm x z ≤ y.length := by
    have := congrArg List.length b
    rw [List.length_take, pl] at this
    omega
  exact ⟨take_comm _ _ _ l.1 yl b.symm, take_comm _ _ _ yl l.2 (b.trans e)⟩
theorem comm_tri {x y z : List Nat} {m : Nat} (h1 : m ≤ comm x y) (h2 : m ≤ comm y z) : m ≤ comm x z := by
  have l1 := comm_le x y
  have l2 := comm_le y z
  exact take_comm m x z (by omega) (by omega) ((comm_take m x y h1).trans (comm_take m y z h2))
section
variable {E : List E3} (pw : E.Pairwise (fun p q => le3 p q = true))
include pw
theorem lets_mono {i j : Nat} (h : i ≤ j) (hj : j < E.length) : ¬ letsAt E j < letsAt E i := by
  rw [letsAt_eq (List.getElem?_eq_getElem hj), letsAt_eq (List.getElem?_eq_getElem (by omega : i < E.length))]
  exact le3_letters (pw_at pw le3_refl (by omega) hj h)
theorem comm_le_cm {i j k : Nat} (h1 : i < k) (h2 : k ≤ j) (hj : j < E.length) : ((comm (letsAt E i) (letsAt E j) : Nat) : Int) ≤ cmAt E (k - 1) := by
  have a := (comm_mid (lets_mono pw (i := i) (j := k) (by omega) (by omega)) (lets_mono pw (i := k) (j := j) h2 hj)).1
  have b := (comm_mid (lets_mono pw (i := i) (j := k - 1) (by omega) (by omega)) (lets_mono pw (i := k - 1) (j := k) (by omega) (by omega))).2
  unfold cmAt
  rw [show k - 1 + 1 = k by omega]
  omega
theorem le_comm {i : Nat} {m : Int} : ∀ (d : Nat), (∀ k, i < k → k ≤ i + 1 + d → m ≤ cmAt E (k - 1)) → m ≤ ((comm (letsAt E i) (letsAt E (i + 1 + d)) : Nat) : Int)
  | 0, h => by
    have := h (i + 1) (by omega) (by omega)
    unfold cmAt at this
    exact this
  | d + 1, h => by
    have ih := le_comm d fun k a b => h k a (by omega)
    have := h (i + 1 + d + 1) (by omega) (by omega)
    unfold cmAt at this
    rw [show i + 1 + d + 1 - 1 + 1 = i + 1 + d + 1 by omega, show i + 1 + d + 1 - 1 = i + 1 + d by omega] at this
    by_cases c : m < 0
    · omega
    · obtain ⟨n, rfl⟩ : ∃ n : Nat, m = n := ⟨m.toNat, by omega⟩
      have := comm_tri (m := n) (x := letsAt E i) (y := letsAt E (i + 1 + d)) (z := letsAt E (i + 1 + d + 1)) (by omega) (by omega)
      show (n : Int) ≤ ((comm (letsAt E i) (letsAt E (i + 1 + d + 1)) : Nat) : Int)
      omega
/-- the least of the commons behind the first up to the second -/
theorem least_is {i j : Nat} (hij : i < j) (hj : j < E.length) {m : Int} (h1 : ∃ k, i < k ∧ k ≤ j ∧ m = cmAt E (k - 1)) (h2 : ∀ k, i < k → k ≤ j → m ≤ cmAt E (k - 1)) : m = ((comm (letsAt E i) (letsAt E j) : Nat) : Int) := by
  obtain ⟨k, k1, k2, rfl⟩ := h1
  have a := comm_le_cm pw k1 k2 hj
  have b := le_comm pw (i := i) (j - (i + 1)) fun k x y => h2 k x (by omega)
  rw [show i + 1 + (j - (i + 1)) = j by omega] at b
  omega
end
end SH
set_option Elab.async false
set_option linter.all false
set_option maxRecDepth 100000
set_option maxHeartbeats 4000000
/-! all stretches gone through; slices -/
namespace SH
open PySem PySem.Spec PyProof.Rows L2
def cuts (z : Str) (s : Nat) : List (List Nat) := (List.range (z.length - s)).map fun k => ((TL.tl z).drop s).take (k + 1)
def cutsZ (z : Str) : List (List Nat) := (List.range z.length).flatMap (cuts z)
def cutsH (h : List (Int × Str)) : List (List Nat) := h.flatMap fun q => cutsZ q.2
theorem mem_cuts {z : Str} {s : Nat} {p : List Nat} : p ∈ cuts z s ↔ isPre p ((TL.tl z).drop s) := by
  unfold cuts
  rw [List.mem_map]
  have zl : (TL.tl z).length = z.length := rfl
  constructor
  · rintro ⟨k, hk, rfl⟩
    have hk := List.mem_range.mp hk
    have l : (((TL.tl z).drop s).take (k + 1)).length = k + 1 := by rw [List.length_take, List.length_drop]; omega
    refine ⟨fun e => ?_, by rw [l]⟩
    rw [e] at l
    simp at l
  · intro h
    have l := isPre_len h
    rw [List.length_drop] at l
    have p0 : 0 < p.length := List.length_pos_iff.mpr h.1
    refine ⟨p.length - 1, List.mem_range.mpr (by omega), ?_⟩
    rw [show p.length - 1 + 1 = p.length by omega]
    exact h.2
theorem mem_cutsZ {z : Str} {p : List Nat} : p ∈ cutsZ z ↔ ∃ s : Nat, s ≤ z.length ∧ isPre p ((TL.tl z).drop s) := by
  unfold cutsZ
  rw [List.mem_flatMap]
  constructor
  · rintro ⟨s, hs, hp⟩
    exact ⟨s, Nat.le_of_lt (List.mem_range.mp hs), mem_cuts.mp hp⟩
  · rintro ⟨s, hs, hp⟩
    refine ⟨s, List.mem_range.mpr ?_, mem_cuts.mpr hp⟩
    rcases Nat.lt_or_ge s z.length with c | c
    · exact c
    · have := isPre_len hp
      have zl : (TL.tl z).length = z.length := rfl
      rw [List.length_drop] at this
      exact absurd (List.eq_nil_of_length_eq_zero (by omega : p.length = 0)) hp.1
theorem mem_cutsH {h : List (Int × Str)} {p : List Nat} : p ∈ cutsH h ↔ isStr h p := by
  unfold cutsH
  rw [List.mem_flatMap]
  constructor
  · rintro ⟨q, hq, hp⟩
    exact ⟨q, hq, mem_cutsZ.mp hp⟩
  · rintro ⟨q, hq, hp⟩
    exact ⟨q, hq, mem_cutsZ.mpr hp⟩
theorem cutsH_snoc (h : List (Int × Str)) (q : Int × Str) : cutsH (h ++ [q]) = cutsH h ++ cutsZ q.2 := by
  unfold cutsH
  rw [List.flatMap_append]
  simp
theorem flat_range {α : Type} (f : Nat → List α) (n : Nat) : (List.range (n + 1)).flatMap f = (List.range n).flatMap f ++ f n := by
  rw [List.range_succ, List.flatMap_append]
  simp
/-- the keys of a table are these words -/
def KeyW (kvs : List (Key × V)) (S : List (List Nat)) : Prop := (kvs.map (·.1)).Nodup ∧ ∀ k : Key, k ∈ kvs.map (·.1) ↔ ∃ z : Str, k = .inr z ∧ TL.tl z ∈ S
theorem KeyW.put {kvs : List (Key × V)} {S : List (List Nat)} (h : KeyW kvs S) (z : Str) (v : V) : KeyW (putK kvs (.inr z) v) (S ++ [TL.tl z]) := by
  refine ⟨keys_put_nd h.1, fun k => ?_⟩
  rw [keys_put_mem, h.2]
  constructor
  · rintro (⟨y, rfl, hy⟩ | rfl)
    · exact ⟨y, rfl, List.mem_append_left _ hy⟩
    · exact ⟨z, rfl, List.mem_append_right _ (List.mem_singleton.mpr rfl)⟩
  · rintro ⟨y, rfl, hy⟩
    rcases List.mem_append.mp hy with m | m
    · exact .inl ⟨y, rfl, m⟩
    · exact .inr (congrArg Sum.inr (str_ext (List.mem_singleton.mp m)))
theorem KeyW.nil : KeyW [] [] := ⟨List.nodup_nil, fun k => by simp⟩
theorem KeyW.eq {kvs : List (Key × V)} {S S' : List (List Nat)} (h : KeyW kvs S) (e : S = S') : KeyW kvs S' := e ▸ h
def keyL : Key → List Nat
  | .inl _ => []
  | .inr z => TL.tl z
theorem KeyW.len {kvs : List (Key × V)} {h : List (Int × Str)} (k : KeyW kvs (cutsH h)) : kvs.length = strN h := by
  have : ((kvs.map (·.1)).map keyL).length = strN h := by
    refine strN_of ?_ fun p => ?_
    · rw [List.Nodup, List.pairwise_map]
      refine (show (kvs.map (·.1)).Pairwise (· ≠ ·) from k.1).imp_of_mem fun {a b} ha hb ne e => ?_
      obtain ⟨x, rfl, _⟩ := (k.2 a).mp ha
      obtain ⟨y, rfl, _⟩ := (k.2 b).mp hb
      exact ne (congrArg Sum.inr (str_ext e))
    · rw [← mem_cutsH, List.mem_map]
      constructor
      · rintro ⟨a, ha, rfl⟩
        obtain ⟨x, rfl, hx⟩ := (k.2 a).mp ha
        exact hx
      · intro hp
        have e : TL.tl (⟨p.toArray⟩ : Str) = p := rfl
        exact ⟨.inr ⟨p.toArray⟩, (k.2 _).mpr ⟨_, rfl, by rw [e]; exact hp⟩, rfl⟩
  rw [List.length_map, List.length_map] at this
  exact this
theorem cut_ab (xs : List V) {a b : Nat} (h1 : a ≤ b) (h : b ≤ xs.length) : cutV xs (some (a : Int)) (some (b : Int)) = (xs.drop a).take (b - a) := by
  unfold cutV
  rw [HT.sIx_nat, HT.sIx_nat, Nat.min_eq_left h, Nat.min_eq_left (by omega)]
end SH
set_option Elab.async false
set_option linter.all false
set_option maxRecDepth 100000
set_option maxHeartbeats 4000000
/-! houses with a pair more or less -/
namespace SH
open PySem PySem.Spec PyProof.Rows L2
def spIsLetter : Sp := fun vs H Q _ => ∃ c : Nat, vs = [.str ⟨#[c]⟩] ∧ Q (.bl (okc c)) H
def spIsText : Sp := fun vs H Q _ => ∃ z : Str, vs = [.str z] ∧ z.length ≤ 1000 ∧ ∀ H', Same H H' → Q (.bl (isTxt z)) H'
def spHasNumber (K : PySem.W.Frag) : Sp := fun vs H Q _ => ∃ (a : Addr) (L : PL) (n : Int), vs = [.ref a, .int n] ∧ HsAt K H a L ∧ L.length ≤ 1000 ∧ ∀ H', Same H H' → Q (.bl (decide (n ∈ L.map fun q => q.2.1))) H'
theorem inV_ints (n : Int) (l : List Int) : inV (.int n) (l.map V.int) = decide (n ∈ l) := by
  unfold inV
  induction l with
  | nil => simp
  | cons x r ih =>
    rw [List.map_cons, List.any_cons, ih]
    show (x == n || decide (n ∈ r)) = decide (n ∈ x :: r)
    by_cases h : x = n
    · subst h
      simp
    · have h2 : (x == n) = false := by simpa using h
      have h3 : ¬ n = x := fun z => h z.symm
      rw [h2]
      simp [h3]
theorem refs_at {L : PL} {i : Nat} {x : V} (h : (refs L)[i]? = some x) : ∃ t, L[i]? = some t ∧ t ∈ L ∧ x = .ref t.1 := by
  unfold refs at h
  rw [List.getElem?_map] at h
  cases e : L[i]? with
  | none => rw [e] at h; cases h
  | some t =>
    rw [e] at h
    cases h
    exact ⟨t, rfl, List.mem_of_getElem? e, rfl⟩
theorem drop_at {α : Type} {l : List α} {i : Nat} {x : α} (h : l[i]? = some x) : l.drop i = x :: l.drop (i + 1) := by
  obtain ⟨hi, e⟩ := List.getElem?_eq_some_iff.mp h
  rw [List.drop_eq_getElem_cons hi, e]
/-- a new house is handed back: a new list p of pairs, as pure data h -/
def NewHs (K : PySem.W.Frag) (Q : VK) (H : Hp) (h : List (Int × Str)) : Prop := ∀ (p : Addr) (L' : PL) (H' : Hp), Same H H' → H p = none → H' p = some (.lst (refs L')) → PairsAt K H' L' → L'.map (·.2) = h → Q (.ref p) H'
/-- with a pair more, in its place -/
def ins (n : Int) (z : Str) (h : List (Int × Str)) : List (Int × Str) := h.filter (fun q => decide (q.1 < n)) ++ [(n, z)] ++ h.filter (fun q => decide (n < q.1))
theorem asc_uniq : ∀ {l m : List (Int × Str)}, l.Perm m → l.Pairwise (fun q r => q.1 < r.1) → m.Pairwise (fun q r => q.1 < r.1) → l = m
  | [], m, p, _, _ => (List.Perm.eq_nil p.symm).symm
  | x :: l, [], p, _, _ => absurd p.length_eq (by simp)
  | x :: l, y :: m, p, hl, hm => by
    rw [List.pairwise_cons] at hl hm
    have e : x = y := by
      rcases List.mem_cons.mp (p.mem_iff.mp (List.mem_cons_self ..)) with e | hx
      · exact e
      · rcases List.mem_cons.mp (p.mem_iff.mpr (List.mem_cons_self ..)) with e | hy
        · exact e.symm
        · have a := hm.1 x hx
          have b := hl.1 y hy
          omega
    subst e
    rw [asc_uniq p.cons_inv hl.2 hm.2]
theorem ins_perm {n : Int} {z : Str} : ∀ {h : List (Int × Str)}, n ∉ h.map (·.1) → (ins n z h).Perm (h ++ [(n, z)])
  | [], _ => List.Perm.refl _
  | q :: r, hn => by
    rw [List.map_cons, List.mem_cons, not_or] at hn
    have ih := ins_perm (z := z) hn.2
    unfold ins at ih ⊢
    by_cases h1 : q.1 < n
    · rw [List.filter_cons_of_pos (by simpa using h1), List.filter_cons_of_neg (by simp; omega)]
      exact ih.cons q
    · rw [List.filter_cons_of_neg (by simpa using h1), List.filter_cons_of_pos (by simp; omega)]
      have p1 := List.perm_middle (a := q) (l₁ := r.filter (fun q => decide (q.1 < n)) ++ [(n, z)]) (l₂ := r.filter (fun q => decide (n < q.1)))
      exact p1.trans (ih.cons q)
theorem ins_asc {n : Int} {z : Str} {h : List (Int × Str)} (a : h.Pairwise (fun q r => q.1 < r.1)) : (ins n z h).Pairwise (fun q r => q.1 < r.1) := by
  unfold ins
  rw [List.pairwise_append, List.pairwise_append]
  refine ⟨⟨a.filter _, by simp, fun x hx y hy => ?_⟩, a.filter _, fun x hx y hy => ?_⟩
  · have h1 := (List.mem_filter.mp hx).2
    rw [List.mem_singleton.mp hy]
    simpa using h1
  · have h2 := (List.mem_filter.mp hy).2
    have h2' : n < y.1 := by simpa using h2
    rcases List.mem_append.mp hx with m | m
    · have h1 := (List.mem_filter.mp m).2
      have h1' : x.1 < n := by simpa using h1
      omega
    · rw [List.mem_singleton.mp m]
      exact h2'
theorem IsHs.pw {m : Nat} {h : List (Int × Str)} (a : IsHs m h) : h.Pairwise (fun q r => q.1 < r.1) := List.pairwise_map.mp a.asc
end SH
set_option Elab.async false
set_option linter.all false
set_option maxRecDepth 100000
set_option maxHeartbeats 4000000
/-! a dict of words, each with the list of the numbers of the texts where it stands -/
namespace SH
open PySem PySem.Spec PyProof.Rows L2
abbrev WT := List (Str × Addr × List Int)
def wkvs (T : WT) : List (Key × V) := T.map fun e => ((Sum.inr e.1 : Key), V.ref e.2.1)
/-- what has been met: words and numbers, in order -/
abbrev Occ := List (Str × Int)
structure Wd (H0 H : Hp) (D : Addr) (T : WT) : Prop where
  at_ : H D = some (.dK (wkvs T))
  sm : Same H0 H
  nD : H0 D = none
  kd : (T.map (·.1)).Nodup
  rd : (T.map (·.2.1)).Nodup
  row : ∀ e ∈ T, H e.2.1 = some (.lst (e.2.2.map V.int)) ∧ H0 e.2.1 = none
/-- it tells what has been met -/
structure WdOf (T : WT) (O : Occ) : Prop where
  mem : ∀ z, z ∈ T.map (·.1) ↔ z ∈ O.map (·.1)
  val : ∀ e ∈ T, e.2.2 = (O.filter fun o => decide (o.1 = e.1)).map (·.2)
theorem wkvs_keys (T : WT) : (wkvs T).map (·.1) = (T.map (·.1)).map fun z => (Sum.inr z : Key) := by
  unfold wkvs
  rw [List.map_map, List.map_map]
  rfl
theorem Wd.val_of {H0 H : Hp} {D : Addr} {T : WT} (h : Wd H0 H D T) {e : Str × Addr × List Int} (he : e ∈ T) : valV (wkvs T) (.inr e.1) = some (.ref e.2.1) := by
  have kd := h.kd
  unfold wkvs
  clear h
  induction T with
  | nil => cases he
  | cons a r ih =>
    rw [List.map_cons] at kd ⊢
    rw [List.nodup_cons] at kd
    unfold valV
    rcases List.mem_cons.mp he with e1 | m
    · subst e1
      rw [List.find?_cons_of_pos (by simp)]
      rfl
    · have ne : ¬ a.1 = e.1 := fun z => kd.1 (by rw [z]; exact List.mem_map_of_mem m)
      rw [List.find?_cons_of_neg (by simpa using ne)]
      exact ih m kd.2
theorem wkvs_none {T : WT} {z : Str} (h : z ∉ T.map (·.1)) : valV (wkvs T) (.inr z) = none := by
  unfold valV
  rw [List.find?_eq_none.mpr fun x hx => ?_]
  · rfl
  · unfold wkvs at hx
    obtain ⟨e, he, rfl⟩ := List.mem_map.mp hx
    have : ¬ e.1 = z := fun y => h (y ▸ List.mem_map_of_mem he)
    simpa using this
theorem wkvs_put {T : WT} {z : Str} {r : Addr} (h : z ∉ T.map (·.1)) : putK (wkvs T) (.inr z) (.ref r) = wkvs (T ++ [(z, r, [])]) := by
  unfold putK
  rw [if_neg, show wkvs (T ++ [(z, r, [])]) = wkvs T ++ [((Sum.inr z : Key), V.ref r)] by unfold wkvs; rw [List.map_append]; rfl]
  intro y
  obtain ⟨x, hx, e⟩ := List.any_eq_true.mp y
  unfold wkvs at hx
  obtain ⟨e2, he, rfl⟩ := List.mem_map.mp hx
  have := of_decide_eq_true e
  exact h ((Sum.inr.inj this) ▸ List.mem_map_of_mem he)
def bump (T : WT) (z : Str) (n : Int) : WT := T.map fun x => if x.1 = z then (x.1, x.2.1, x.2.2 ++ [n]) else x
theorem bump_keys (T : WT) (z : Str) (n : Int) : (bump T z n).map (·.1) = T.map (·.1) := by
  unfold bump
  rw [List.map_map]
  refine List.map_congr_left fun x _ => ?_
  show (if x.1 = z then (x.1, x.2.1, x.2.2 ++ [n]) else x).1 = x.1
  split <;> rfl
theorem bump_refs (T : WT) (z : Str) (n : Int) : (bump T z n).map (·.2.1) = T.map (·.2.1) := by
  unfold bump
  rw [List.map_map]
  refine List.map_congr_left fun x _ => ?_
  show (if x.1 = z then (x.1, x.2.1, x.2.2 ++ [n]) else x).2.1 = x.2.1
  split <;> rfl
theorem bump_kvs (T : WT) (z : Str) (n : Int) : wkvs (bump T z n) = wkvs T := by
  unfold bump wkvs
  rw [List.map_map]
  refine List.map_congr_left fun x _ => ?_
  show ((Sum.inr (if x.1 = z then (x.1, x.2.1, x.2.2 ++ [n]) else x).1 : Key), V.ref (if x.1 = z then (x.1, x.2.1, x.2.2 ++ [n]) else x).2.1) = _
  split <;> rfl
theorem Wd.rne {H0 H : Hp} {D : Addr} {T : WT} (h : Wd H0 H D T) {e : Str × Addr × List Int} (he : e ∈ T) : e.2.1 ≠ D := fun z => by
  have := (h.row e he).1
  rw [z, h.at_] at this
  cases this
theorem nodup_key {T : WT} (h : (T.map (·.1)).Nodup) {e f : Str × Addr × List Int} (he : e ∈ T) (hf : f ∈ T) (k : e.1 = f.1) : e = f := by
  induction T with
  | nil => cases he
  | cons a r ih =>
    rw [List.map_cons, List.nodup_cons] at h
    rcases List.mem_cons.mp he with e1 | m1 <;> rcases List.mem_cons.mp hf with e2 | m2
    · rw [e1, e2]
    · exact (h.1 (by rw [← e1, k]; exact List.mem_map_of_mem (f := fun x : Str × Addr × List Int => x.1) m2)).elim
    · exact (h.1 (by rw [← e2, ← k]; exact List.mem_map_of_mem (f := fun x : Str × Addr × List Int => x.1) m1)).elim
    · exact ih h.2 m1 m2
theorem nodup_ref {T : WT} (h : (T.map (·.2.1)).Nodup) {e f : Str × Addr × List Int} (he : e ∈ T) (hf : f ∈ T) (k : e.2.1 = f.2.1) : e = f := by
  induction T with
  | nil => cases he
  | cons a r ih =>
    rw [List.map_cons, List.nodup_cons] at h
    rcases List.mem_cons.mp he with e1 | m1 <;> rcases List.mem_cons.mp hf with e2 | m2
    · rw [e1, e2]
    · exact (h.1 (by rw [← e1, k]; exact List.mem_map_of_mem (f := fun x : Str × Addr × List Int => x.2.1) m2)).elim
    · exact (h.1 (by rw [← e2, ← k]; exact List.mem_map_of_mem (f := fun x : Str × Addr × List Int => x.2.1) m1)).elim
    · exact ih h.2 m1 m2
/-- a word more -/
theorem Wd.new {H0 H : Hp} {D : Addr} {T : WT} (h : Wd H0 H D T) {z : Str} (hz : z ∉ T.map (·.1)) {r : Addr} (nr : H r = none) : Wd H0 (upd (upd H r (.lst [])) D (.dK (wkvs (T ++ [(z, r, [])])))) D (T ++ [(z, r, [])]) := by
  have rD : r ≠ D := fun e => by rw [e, h.at_] at nr; cases nr
  refine ⟨upd_same, same_mut (h.sm.trans (same_new nr)) h.nD, h.nD, ?_, ?_, fun e m => ?_⟩
  · rw [List.map_append, List.nodup_append]
    exact ⟨h.kd, by simp, fun a ha b hb e => by rw [List.mem_singleton.mp hb] at e; exact hz (by rw [← show a = z from e]; exact ha)⟩
  · rw [List.map_append, List.nodup_append]
    refine ⟨h.rd, by simp, fun a ha b hb e => ?_⟩
    rw [List.mem_singleton.mp hb] at e
    obtain ⟨x, hx, rfl⟩ := List.mem_map.mp ha
    have := (h.row x hx).1
    rw [show x.2.1 = r from e, nr] at this
    cases this
  · rcases List.mem_append.mp m with m | m
    · rw [upd_ne (h.rne m)]
      exact ⟨same_new nr _ _ (h.row e m).1, (h.row e m).2⟩
    · rw [List.mem_singleton.mp m]
      exact ⟨by rw [upd_ne rD]; exact upd_same, h.sm.free nr⟩
/-- a number more behind a word -/
theorem Wd.app {H0 H : Hp} {D : Addr} {T : WT} (h : Wd H0 H D T) {e : Str × Addr × List Int} (he : e ∈ T) (n : Int) : Wd H0 (upd H e.2.1 (.lst (e.2.2.map V.int ++ [.int n]))) D (bump T e.1 n) := by
  refine ⟨?_, same_mut h.sm (h.row e he).2, h.nD, by rw [bump_keys]; exact h.kd, by rw [bump_refs]; exact h.rd, fun x hx => ?_⟩
  · rw [upd_ne (fun z => h.rne he z.symm), bump_kvs]
    exact h.at_
  · unfold bump at hx
    obtain ⟨y, hy, rfl⟩ := List.mem_map.mp hx
    by_cases c : y.1 = e.1
    · have := nodup_key h.kd hy he c
      subst this
      rw [if_pos rfl]
      exact ⟨by rw [List.map_append]; exact upd_same, (h.row y hy).2⟩
    · rw [if_neg c]
      rw [upd_ne (fun z => c (congrArg (·.1) (nodup_ref h.rd hy he z)))]
      exact h.row y hy
theorem WdOf.bump {T : WT} {O : Occ} {z : Str} {n : Int} (hs : ∀ y, y ∈ T.map (·.1) ↔ y ∈ O.map (·.1) ∨ y = z) (hv : ∀ e ∈ T, e.2.2 = (O.filter fun o => decide (o.1 = e.1)).map (·.2)) : WdOf (SH.bump T z n) (O ++ [(z, n)]) := by
  refine ⟨fun y => ?_, fun e he => ?_⟩
  · rw [bump_keys, hs y, List.map_append, List.mem_append]
    exact or_congr Iff.rfl List.mem_singleton.symm
  · unfold SH.bump at he
    obtain ⟨x, hx, rfl⟩ := List.mem_map.mp he
    rw [List.filter_append, List.map_append]
    by_cases c : x.1 = z
    · rw [if_pos c]
      show x.2.2 ++ [n] = (O.filter fun o => decide (o.1 = x.1)).map (·.2) ++ ([((z, n) : Str × Int)].filter fun o => decide (o.1 = x.1)).map (·.2)
      rw [← hv x hx, List.filter_cons_of_pos (p := fun o : Str × Int => decide (o.1 = x.1)) (decide_eq_true (show z = x.1 from c.symm))]
      rfl
    · rw [if_neg c]
      show x.2.2 = (O.filter fun o => decide (o.1 = x.1)).map (·.2) ++ ([((z, n) : Str × Int)].filter fun o => decide (o.1 = x.1)).map (·.2)
      rw [← hv x hx, List.filter_cons_of_neg (p := fun o : Str × Int => decide (o.1 = x.1)) (by simpa using fun y : z = x.1 => c y.symm)]
      exact (List.append_nil _).symm
theorem Wd.same {H0 H H' : Hp} {D : Addr} {T : WT} (s : Same H H') (h : Wd H0 H D T) : Wd H0 H' D T := ⟨s _ _ h.at_, h.sm.trans s, h.nD, h.kd, h.rd, fun e m => ⟨s _ _ (h.row e m).1, (h.row e m).2⟩⟩
/-! ### the stretches of a house -/
def cutN (z : Str) (a b : Nat) : Str := cutS z (some (a : Int)) (some (b : Int))
def occA (z : Str) (n : Int) (a : Nat) (m : Nat) : Occ := (List.range m).map fun k => (cutN z a (a + 1 + k), n)
def occQ (q : Int × Str) (m : Nat) : Occ := (List.range m).flatMap fun a => occA q.2 q.1 a (q.2.length - a)
def occ (h : List (Int × Str)) : Occ := h.flatMap fun q => occQ q q.2.length
theorem occA_succ (z : Str) (n : Int) (a m : Nat) : occA z n a (m + 1) = occA z n a m ++ [(cutN z a (a + 1 + m), n)] := by
  unfold occA
  rw [List.range_succ, List.map_append]
  rfl
theorem occQ_succ (q : Int × Str) (m : Nat) : occQ q (m + 1) = occQ q m ++ occA q.2 q.1 m (q.2.length - m) := by
  unfold occQ
  rw [List.range_succ, List.flatMap_append]
  simp
theorem occ_snoc (h : List (Int × Str)) (q : Int × Str) : occ (h ++ [q]) = occ h ++ occQ q q.2.length := by
  unfold occ
  rw [List.flatMap_append]
  simp
end SH
set_option Elab.async false
set_option linter.all false
set_option maxRecDepth 100000
set_option maxHeartbeats 4000000
/-! all stretches, each once, by their number of letters and then as texts -/
namespace SH
open PySem PySem.Spec PyProof.Rows L2
def leL (x y : Str) : Prop := x.length < y.length ∨ (x.length = y.length ∧ x.cps.toList ≤ y.cps.toList)
structure StrL (O : List Str) (l : List Str) : Prop where
  nd : l.Nodup
  pw : l.Pairwise leL
  mem : ∀ z, z ∈ l ↔ z ∈ O
theorem two_of {α : Type} [DecidableEq α] : ∀ {l : List α} {a b : α}, a ∈ l → b ∈ l → a ≠ b → [a, b].Sublist l ∨ [b, a].Sublist l
  | x :: r, a, b, ha, hb, n => by
    rcases List.mem_cons.mp ha with e1 | m1 <;> rcases List.mem_cons.mp hb with e2 | m2
    · exact absurd (e1.trans e2.symm) n
    · subst e1
      exact .inl ((List.singleton_sublist.mpr m2).cons_cons a)
    · subst e2
      exact .inr ((List.singleton_sublist.mpr m1).cons_cons b)
    · rcases two_of m1 m2 n with h | h
      · exact .inl (h.cons x)
      · exact .inr (h.cons x)
theorem two_not {α : Type} : ∀ {l : List α} {a b : α}, l.Nodup → [a, b].Sublist l → [b, a].Sublist l → False
  | x :: r, a, b, nd, h1, h2 => by
    obtain ⟨nx, nr⟩ := List.nodup_cons.mp nd
    rcases List.sublist_cons_iff.mp h1 with h1 | ⟨r1, e1, h1⟩ <;> rcases List.sublist_cons_iff.mp h2 with h2 | ⟨r2, e2, h2⟩
    · exact two_not nr h1 h2
    · cases e2
      exact nx (h1.subset (by simp))
    · cases e1
      exact nx (h2.subset (by simp))
    · cases e1
      cases e2
      exact nx (List.singleton_sublist.mp h1)
theorem lenSort {l : List Str} (nd : l.Nodup) (pw : l.Pairwise fun x y => x.cps.toList ≤ y.cps.toList) : StrL l (l.mergeSort fun x y => decide (x.length ≤ y.length)) := by
  have pm := List.mergeSort_perm l fun x y => decide (x.length ≤ y.length)
  have tr : ∀ a b c : Str, decide (a.length ≤ b.length) = true → decide (b.length ≤ c.length) = true → decide (a.length ≤ c.length) = true := fun a b c h1 h2 => decide_eq_true (Nat.le_trans (of_decide_eq_true h1) (of_decide_eq_true h2))
  have tot : ∀ a b : Str, (decide (a.length ≤ b.length) || decide (b.length ≤ a.length)) = true := fun a b => by
    rcases Nat.le_total a.length b.length with h | h
    · rw [decide_eq_true h]; rfl
    · rw [decide_eq_true h, Bool.or_true]
  have pl := List.pairwise_mergeSort tr tot l
  have nr := pm.nodup_iff.mpr nd
  refine ⟨nr, ?_, fun z => pm.mem_iff⟩
  rw [List.pairwise_iff_forall_sublist]
  intro a b hab
  have h1 : a.length ≤ b.length := of_decide_eq_true (List.pairwise_iff_forall_sublist.mp pl hab)
  rcases Nat.lt_or_ge a.length b.length with h | h
  · exact .inl h
  · have e : a.length = b.length := Nat.le_antisymm h1 h
    refine .inr ⟨e, ?_⟩
    by_cases c : a = b
    · rw [c]; exact List.le_refl _
    · have ma := pm.mem_iff.mp (hab.subset (List.mem_cons_self ..))
      have mb := pm.mem_iff.mp (hab.subset (by simp : b ∈ [a, b]))
      rcases two_of ma mb c with s | s
      · exact List.pairwise_iff_forall_sublist.mp pw s
      · exact (two_not nr hab (List.pair_sublist_mergeSort tr tot (decide_eq_true h) s)).elim
theorem leL_anti {x y : Str} (h1 : leL x y) (h2 : leL y x) : x = y := by
  rcases h1 with a | ⟨a, b⟩ <;> rcases h2 with c | ⟨c, d⟩
  · omega
  · omega
  · omega
  · exact str_ext (List.le_antisymm b d)
theorem StrL.uniq {O l m : List Str} (h : StrL O l) (k : StrL O m) : l = m :=
  ((List.perm_ext_iff_of_nodup h.nd k.nd).mpr fun z => (h.mem z).trans (k.mem z).symm).eq_of_pairwise (fun a b _ _ => leL_anti) h.pw k.pw
theorem StrL.cong {O O' l : List Str} (h : StrL O l) (e : ∀ z, z ∈ O ↔ z ∈ O') : StrL O' l := ⟨h.nd, h.pw, fun z => (h.mem z).trans (e z)⟩
/-! ### a set of texts that grows -/
/-- at D stands a set of just these texts -/
def SetS (w : World) (H0 H : Hp) (D : Addr) (O : List Str) : Prop := ∃ (S : Key → Bool) (n : Nat), H D = some (SetMO w D S n) ∧ (∀ k, S k = true ↔ ∃ z : Str, k = .inr z ∧ z ∈ O) ∧ n ≤ O.length ∧ Same H0 H
theorem SetS.nil {w : World} {H0 : Hp} {D : Addr} (h : H0 D = none) : SetS w H0 (upd H0 D (SetMO w D (fun _ => false) 0)) D [] :=
  ⟨_, 0, upd_same, fun k => ⟨fun z => (by cases z), fun z => (by obtain ⟨_, _, z⟩ := z; cases z)⟩, Nat.le_refl _, same_new h⟩
theorem SetS.put {w : World} {H0 H : Hp} {D : Addr} {O : List Str} (nD : H0 D = none) (h : SetS w H0 H D O) (z : Str) (hl : O.length < 4000) {Q : Hp → Prop} (q : ∀ H', SetS w H0 H' D (O ++ [z]) → Q H') :
    ∃ (k : Key) (S : Key → Bool) (n : Nat), V.str z = kV k ∧ H D = some (SetMO w D S n) ∧ n + 1 < scanBound ∧ Q (upd H D (SetMO w D (fun j => S j || decide (j = k)) (if S k = true then n else n + 1))) := by
  obtain ⟨S, n, hD, hS, hn, sm⟩ := h
  refine ⟨.inr z, S, n, rfl, hD, ?_, q _ ⟨_, _, upd_same, fun k => ?_, ?_, same_mut sm nD⟩⟩
  · have : scanBound = 4096 := rfl
    omega
  · rw [Bool.or_eq_true, hS k, decide_eq_true_eq]
    constructor
    · rintro (⟨y, e, m⟩ | e)
      · exact ⟨y, e, List.mem_append_left _ m⟩
      · exact ⟨z, e, List.mem_append_right _ (List.mem_singleton.mpr rfl)⟩
    · rintro ⟨y, e, m⟩
      rcases List.mem_append.mp m with m | m
      · exact .inl ⟨y, e, m⟩
      · exact .inr (by rw [e, List.mem_singleton.mp m])
  · rw [List.length_append]
    show (if S (.inr z) = true then n else n + 1) ≤ O.length + 1
    split <;> omega
end SH
set_option Elab.async false
set_option linter.all false
set_option maxRecDepth 100000
set_option maxHeartbeats 4000000
/-! shortest single stretches -/
namespace SH
open PySem PySem.Spec PyProof.Rows L2
theorem cutN_tl {z : Str} {a b : Nat} (h1 : a ≤ b) (h2 : b ≤ z.length) : TL.tl (cutN z a b) = ((TL.tl z).drop a).take (b - a) := by
  unfold cutN
  have e : (b : Int) = (a : Int) + ((b - a : Nat) : Int) := by omega
  rw [e]
  exact cut_mid (by omega)
theorem cutN_len {z : Str} {a b : Nat} (h1 : a ≤ b) (h2 : b ≤ z.length) : (cutN z a b).length = b - a := by
  have := congrArg List.length (cutN_tl h1 h2)
  rw [List.length_take, List.length_drop] at this
  have e1 : (TL.tl (cutN z a b)).length = (cutN z a b).length := rfl
  have e2 : (TL.tl z).length = z.length := rfl
  omega
theorem cutN_is {z w : Str} {m k : Nat} (hm : m + 1 + k ≤ z.length) : cutN z m (m + 1 + k) = w ↔ (k + 1 = w.length ∧ standsP w z m = true) := by
  have tl := cutN_tl (z := z) (a := m) (b := m + 1 + k) (by omega) hm
  rw [show m + 1 + k - m = k + 1 by omega] at tl
  constructor
  · intro h
    have hl := cutN_len (z := z) (a := m) (b := m + 1 + k) (by omega) hm
    rw [h] at hl tl
    refine ⟨by omega, decide_eq_true ?_⟩
    rw [hl, show m + 1 + k - m = k + 1 by omega]
    exact tl.symm
  · rintro ⟨h1, h2⟩
    refine str_ext ?_
    show TL.tl (cutN z m (m + 1 + k)) = TL.tl w
    rw [tl, h1]
    exact of_decide_eq_true h2
theorem range_one (n : Nat) : ∀ c : Nat, ((List.range c).filter fun k => decide (k + 1 = n)).length = if 0 < n ∧ n ≤ c then 1 else 0
  | 0 => by
    rw [if_neg (by omega)]
    rfl
  | c + 1 => by
    rw [List.range_succ, List.filter_append, List.length_append, range_one n c]
    by_cases h : c + 1 = n
    · rw [if_neg (by omega), if_pos (by omega), List.filter_cons_of_pos (p := fun k => decide (k + 1 = n)) (decide_eq_true h)]
      rfl
    · rw [List.filter_cons_of_neg (p := fun k => decide (k + 1 = n)) (by simpa using h)]
      by_cases h2 : 0 < n ∧ n ≤ c
      · rw [if_pos h2, if_pos (by omega)]
        rfl
      · rw [if_neg h2, if_neg (by omega)]
        rfl
theorem occA_cnt {z w : Str} {n : Int} {m : Nat} (hm : m < z.length) (hw : 0 < w.length) : ((occA z n m (z.length - m)).filter fun o => decide (o.1 = w)).length = if standsP w z m = true then 1 else 0 := by
  unfold occA
  rw [List.filter_map, List.length_map]
  have e : (List.range (z.length - m)).filter ((fun o : Str × Int => decide (o.1 = w)) ∘ fun k => (cutN z m (m + 1 + k), n)) = (List.range (z.length - m)).filter fun k => decide (k + 1 = w.length ∧ standsP w z m = true) := by
    refine List.filter_congr fun k hk => ?_
    have := List.mem_range.mp hk
    exact decide_eq_decide.mpr (cutN_is (by omega))
  rw [e]
  by_cases s : standsP w z m = true
  · rw [if_pos s]
    have : (List.range (z.length - m)).filter (fun k => decide (k + 1 = w.length ∧ standsP w z m = true)) = (List.range (z.length - m)).filter fun k => decide (k + 1 = w.length) :=
      List.filter_congr fun k _ => decide_eq_decide.mpr ⟨fun h => h.1, fun h => ⟨h, s⟩⟩
    rw [this, range_one, if_pos]
    have := stands_le s (by omega)
    omega
  · rw [if_neg s, List.filter_eq_nil_iff.mpr fun k _ h => s (of_decide_eq_true h).2]
    rfl
theorem occQ_cnt {q : Int × Str} {w : Str} (hw : 0 < w.length) : ∀ m, m ≤ q.2.length → ((occQ q m).filter fun o => decide (o.1 = w)).length = ((List.range m).filter (standsP w q.2)).length
  | 0, _ => rfl
  | m + 1, h => by
    rw [occQ_succ, List.filter_append, List.length_append, occQ_cnt hw m (by omega), occA_cnt (by omega) hw, List.range_succ, List.filter_append, List.length_append]
    congr 1
    by_cases s : standsP w q.2 m = true
    · rw [if_pos s, List.filter_cons_of_pos s]; rfl
    · rw [if_neg s, List.filter_cons_of_neg s]; rfl
/-- as many numbers as places -/
theorem occ_cnt {w : Str} (hw : 0 < w.length) : ∀ h : List (Int × Str), ((occ h).filter fun o => decide (o.1 = w)).length = (plc h w).length
  | [] => rfl
  | q :: r => by
    have e1 : occ (q :: r) = occQ q q.2.length ++ occ r := rfl
    have e2 : plc (q :: r) w = plcOf w q ++ plc r w := rfl
    rw [e1, e2, List.filter_append, List.length_append, List.length_append, occ_cnt hw r, occQ_cnt hw _ (Nat.le_refl _)]
    congr 1
    unfold plcOf
    rw [List.length_map, List.range_succ, List.filter_append, List.length_append]
    have : standsP w q.2 q.2.length = false := by
      cases s : standsP w q.2 q.2.length with
      | false => rfl
      | true =>
        have := stands_le s (Nat.le_refl _)
        omega
    rw [List.filter_cons_of_neg (by rw [this]; decide)]
    rfl
theorem occ_mem {h : List (Int × Str)} {q : Int × Str} (hq : q ∈ h) {a b : Nat} (h1 : a < b) (h2 : b ≤ q.2.length) : cutN q.2 a b ∈ (occ h).map (·.1) := by
  have : ∀ m, a < m → m ≤ q.2.length → (cutN q.2 a b, q.1) ∈ occQ q m := fun m => by
    induction m with
    | zero => intro h; omega
    | succ m ih =>
      intro c1 c2
      rw [occQ_succ]
      rcases Nat.lt_or_ge a m with c | c
      · exact List.mem_append_left _ (ih c (by omega))
      · refine List.mem_append_right _ ?_
        rw [show m = a by omega]
        unfold occA
        exact List.mem_map.mpr ⟨b - a - 1, List.mem_range.mpr (by omega), by rw [show a + 1 + (b - a - 1) = b by omega]⟩
  exact List.mem_map.mpr ⟨_, List.mem_flatMap.mpr ⟨q, hq, this _ (by omega) (Nat.le_refl _)⟩, rfl⟩
/-- a stretch over a letter, that stands once -/
def Sgl (h : List (Int × Str)) (z : Str) (i : Nat) (s m : Nat) : Prop := s ≤ i ∧ i < s + m ∧ s + m ≤ z.length ∧ (plc h (cutN z s (s + m))).length = 1
/-- the least: by size, then by start -/
def LeastS (h : List (Int × Str)) (z : Str) (i : Nat) : Option (Nat × Nat) → Prop
  | none => ∀ s m, ¬ Sgl h z i s m
  | some (s, m) => Sgl h z i s m ∧ ∀ s' m', Sgl h z i s' m' → m < m' ∨ (m = m' ∧ s ≤ s')
theorem leastS_uniq {h : List (Int × Str)} {z : Str} {i : Nat} : ∀ {a b : Option (Nat × Nat)}, LeastS h z i a → LeastS h z i b → a = b
  | none, none, _, _ => rfl
  | none, some (s, m), h1, h2 => absurd h2.1 (h1 s m)
  | some (s, m), none, h1, h2 => absurd h1.1 (h2 s m)
  | some (s, m), some (s', m'), h1, h2 => by
    have a := h1.2 s' m' h2.1
    have b := h2.2 s m h1.1
    have : m = m' ∧ s = s' := by omega
    rw [this.1, this.2]
/-- how it is told -/
def AtS (_ : PySem.W.Frag) (H : Hp) (v : V) : Option (Nat × Nat) → Prop
  | none => v = .non
  | some (s, m) => ∃ t, v = .ref t ∧ H t = some (.tup [.int (s : Int), .int ((s + m : Nat) : Int)])
def dS : Option (Nat × Nat) → PyData
  | none => .none
  | some (s, m) => .tuple [.int (s : Int), .int ((s + m : Nat) : Int)]
theorem AtS.dp {K : PySem.W.Frag} {H : Hp} {v : V} : ∀ {r : Option (Nat × Nat)}, AtS K H v r → Dp K H v (dS r)
  | none, h => by rw [show v = .non from h]; exact .non
  | some (s, m), h => by
    obtain ⟨t, rfl, ht⟩ := h
    exact .tup (.inl (.inl ht)) (.cons (.int _) (.cons (.int _) .nil))
theorem AtS.same {K : PySem.W.Frag} {H H' : Hp} {v : V} (e : Same H H') : ∀ {r : Option (Nat × Nat)}, AtS K H v r → AtS K H' v r
  | none, h => h
  | some (s, m), h => by
    obtain ⟨t, rfl, ht⟩ := h
    exact ⟨t, rfl, e _ _ ht⟩
theorem okd_S : ∀ r : Option (Nat × Nat), Okd (dS r)
  | none => okd_non
  | some (s, m) => ⟨rfl, by show max 0 (max 0 0) + 1 ≤ 60; decide⟩
end SH
set_option Elab.async false
set_option linter.all false
set_option maxRecDepth 100000
set_option maxHeartbeats 4000000
/-! how many texts have how many letters -/
namespace SH
open PySem PySem.Spec PyProof.Rows L2
def cntOf (k : Nat) (p : List Str) : Nat := (p.filter fun z => decide (z.length = k + 1)).length
def cntsTo (m : Nat) (p : List Str) : List Int := (List.range m).map fun k => ((cntOf k p : Nat) : Int)
theorem cntsTo_len (m : Nat) (p : List Str) : (cntsTo m p).length = m := by unfold cntsTo; rw [List.length_map, List.length_range]
theorem cntOf_snoc (k : Nat) (p : List Str) (w : Str) : cntOf k (p ++ [w]) = cntOf k p + (if w.length = k + 1 then 1 else 0) := by
  unfold cntOf
  rw [List.filter_append, List.length_append]
  by_cases c : w.length = k + 1
  · simp [c]
  · simp [c]
theorem cntOf_zero {k : Nat} {p : List Str} (h : ∀ z ∈ p, z.length ≤ k) : cntOf k p = 0 := by
  unfold cntOf
  rw [List.filter_eq_nil_iff.mpr fun z hz hd => by have := h z hz; have := of_decide_eq_true hd; omega]
  rfl
theorem cntsTo_grow {m : Nat} {p : List Str} (h : ∀ z ∈ p, z.length ≤ m) : cntsTo m p ++ [0] = cntsTo (m + 1) p := by
  unfold cntsTo
  rw [List.range_succ, List.map_append]
  show _ = _ ++ [((cntOf m p : Nat) : Int)]
  rw [cntOf_zero h]
  rfl
theorem cntsTo_at (m : Nat) (p : List Str) : atI ((cntsTo (m + 1) p).map V.int) (-1) = some (.int ((cntOf m p : Nat) : Int)) := by
  unfold cntsTo
  rw [List.range_succ, List.map_append, List.map_append]
  exact atI_last _ _
theorem cntsTo_ix (m : Nat) (p : List Str) : ixN ((cntsTo (m + 1) p).map V.int).length (-1) = some m := by
  rw [List.length_map, cntsTo_len]
  unfold ixN
  rw [if_neg (by decide), if_pos (by omega)]
  congr 1
  omega
theorem cntsTo_set {m : Nat} {p : List Str} {w : Str} (h : w.length = m + 1) : ((cntsTo (m + 1) p).map V.int).set m (.int (((cntOf m p : Nat) : Int) + 1)) = (cntsTo (m + 1) (p ++ [w])).map V.int := by
  rw [← List.map_set]
  congr 1
  refine List.ext_getElem? fun k => ?_
  unfold cntsTo
  rw [List.getElem?_set, List.getElem?_map, List.getElem?_map, List.length_map, List.length_range]
  rcases Nat.lt_or_ge k (m + 1) with c | c
  · rw [List.getElem?_range c]
    by_cases e : m = k
    · subst e
      rw [if_pos rfl, if_pos c]
      show some _ = some _
      congr 1
      show _ = ((cntOf m (p ++ [w]) : Nat) : Int)
      rw [cntOf_snoc, if_pos h]
      omega
    · rw [if_neg e]
      show some _ = some _
      congr 1
      show ((cntOf k p : Nat) : Int) = ((cntOf k (p ++ [w]) : Nat) : Int)
      rw [cntOf_snoc, if_neg (by omega)]
      rfl
  · rw [if_neg (by omega), List.getElem?_eq_none (by rw [List.length_range]; exact c)]
    rfl
theorem cntOf_perm {k : Nat} {p q : List Str} (h : p.Perm q) : cntOf k p = cntOf k q := (h.filter _).length_eq
theorem cntsTo_perm {m : Nat} {p q : List Str} (h : p.Perm q) : cntsTo m p = cntsTo m q := by
  unfold cntsTo
  exact List.map_congr_left fun k _ => by rw [cntOf_perm h]
/-- the longest -/
structure MaxL (m : Nat) (p : List Str) : Prop where
  le : ∀ z ∈ p, z.length ≤ m
  has : m = 0 ∨ ∃ z ∈ p, z.length = m
theorem MaxL.uniq {m n : Nat} {p : List Str} (h : MaxL m p) (k : MaxL n p) : m = n := by
  rcases h.has with a | ⟨z, hz, a⟩ <;> rcases k.has with b | ⟨y, hy, b⟩
  · omega
  · have := h.le y hy; omega
  · have := k.le z hz; omega
  · have := h.le y hy
    have := k.le z hz
    omega
theorem MaxL.perm {m : Nat} {p q : List Str} (e : ∀ z, z ∈ p ↔ z ∈ q) (h : MaxL m p) : MaxL m q := ⟨fun z hz => h.le z ((e z).mpr hz), h.has.imp id fun ⟨z, hz, a⟩ => ⟨z, (e z).mp hz, a⟩⟩
theorem occ_isStr {h : List (Int × Str)} {p : List Nat} : p ∈ ((occ h).map (·.1)).map TL.tl ↔ isStr h p := by
  rw [← mem_cutsH]
  have key : ∀ q : Int × Str, p ∈ ((occQ q q.2.length).map (·.1)).map TL.tl ↔ p ∈ cutsZ q.2 := fun q => by
    unfold occQ cutsZ
    rw [List.map_flatMap, List.map_flatMap, List.mem_flatMap, List.mem_flatMap]
    have e : ∀ s ∈ List.range q.2.length, ((occA q.2 q.1 s (q.2.length - s)).map (·.1)).map TL.tl = cuts q.2 s := fun s hs => by
      have hs := List.mem_range.mp hs
      unfold occA cuts
      rw [List.map_map, List.map_map]
      refine List.map_congr_left fun k hk => ?_
      have hk := List.mem_range.mp hk
      show TL.tl (cutN q.2 s (s + 1 + k)) = _
      rw [cutN_tl (by omega) (by omega), show s + 1 + k - s = k + 1 by omega]
    exact ⟨fun ⟨s, hs, hp⟩ => ⟨s, hs, (e s hs) ▸ hp⟩, fun ⟨s, hs, hp⟩ => ⟨s, hs, (e s hs).symm ▸ hp⟩⟩
  unfold occ cutsH
  rw [List.map_flatMap, List.map_flatMap, List.mem_flatMap, List.mem_flatMap]
  exact ⟨fun ⟨q, hq, hp⟩ => ⟨q, hq, (key q).mp hp⟩, fun ⟨q, hq, hp⟩ => ⟨q, hq, (key q).mpr hp⟩⟩
theorem tl_inj {x y : Str} (h : TL.tl x = TL.tl y) : x = y := str_ext h
theorem strN_occ {h : List (Int × Str)} {l : List Str} (nd : l.Nodup) (hm : ∀ z, z ∈ l ↔ z ∈ (occ h).map (·.1)) : l.length = strN h := by
  have := strN_of (h := h) (l := l.map TL.tl) (by rw [List.Nodup, List.pairwise_map]; exact nd.imp fun n e => n (tl_inj e)) fun p => by
    rw [← occ_isStr, List.mem_map, List.mem_map]
    exact ⟨fun ⟨z, hz, e⟩ => ⟨z, (hm z).mp hz, e⟩, fun ⟨z, hz, e⟩ => ⟨z, (hm z).mpr hz, e⟩⟩
  rw [List.length_map] at this
  exact this
/-- letters are left out at the end -/
theorem occ_pos {h : List (Int × Str)} {z : Str} (hm : z ∈ (occ h).map (·.1)) : 0 < z.length := by
  obtain ⟨o, ho, rfl⟩ := List.mem_map.mp hm
  obtain ⟨q, hq, ho⟩ := List.mem_flatMap.mp ho
  obtain ⟨s, hs, ho⟩ := List.mem_flatMap.mp ho
  obtain ⟨k, hk, rfl⟩ := List.mem_map.mp ho
  have hs := List.mem_range.mp hs
  have hk := List.mem_range.mp hk
  show 0 < (cutN q.2 s (s + 1 + k)).length
  have e := cutN_len (z := q.2) (a := s) (b := s + 1 + k) (by omega) (by omega)
  omega
theorem occ_memK {h : List (Int × Str)} {q : Int × Str} (hq : q ∈ h) {s k : Nat} (hk : s + k < q.2.length) : cutN q.2 s (s + 1 + k) ∈ (occ h).map (·.1) :=
  List.mem_map.mpr ⟨(cutN q.2 s (s + 1 + k), q.1), List.mem_flatMap.mpr ⟨q, hq, List.mem_flatMap.mpr ⟨s, List.mem_range.mpr (by omega), List.mem_map.mpr ⟨k, List.mem_range.mpr (by omega), rfl⟩⟩⟩, rfl⟩
theorem occ_less {h : List (Int × Str)} {z : Str} {m : Nat} (hm : z ∈ (occ h).map (·.1)) (hz : z.length = m + 2) : ∃ y ∈ (occ h).map (·.1), y.length = m + 1 := by
  obtain ⟨o, ho, rfl⟩ := List.mem_map.mp hm
  obtain ⟨q, hq, ho⟩ := List.mem_flatMap.mp ho
  obtain ⟨s, hs, ho⟩ := List.mem_flatMap.mp ho
  obtain ⟨k, hk, rfl⟩ := List.mem_map.mp ho
  have hs := List.mem_range.mp hs
  have hk := List.mem_range.mp hk
  have e := cutN_len (z := q.2) (a := s) (b := s + 1 + k) (by omega) (by omega)
  have hz : (cutN q.2 s (s + 1 + k)).length = m + 2 := hz
  refine ⟨_, occ_memK hq (s := s) (k := m) (by omega), ?_⟩
  have := cutN_len (z := q.2) (a := s) (b := s + 1 + m) (by omega) (by omega)
  omega
theorem maxL_next {h : List (Int × Str)} {l : List Str} (hl : StrL ((occ h).map (·.1)) l) {i : Nat} {w : Str} (hw : l[i]? = some w) {m : Nat} (hm : MaxL m (l.take i)) : (m = w.length ∨ m + 1 = w.length) ∧ 0 < w.length ∧ MaxL w.length (l.take i ++ [w]) := by
  have il : i < l.length := (List.getElem?_eq_some_iff.mp hw).1
  have wm : w ∈ l := List.mem_of_getElem? hw
  have split : l = l.take i ++ (w :: l.drop (i + 1)) := by
    have e1 := List.take_append_drop i l
    have e2 : l.drop i = w :: l.drop (i + 1) := by
      rw [List.drop_eq_getElem_cons il]
      congr 1
      exact Option.some.inj ((List.getElem?_eq_getElem il).symm.trans hw)
    rw [e2] at e1
    exact e1.symm
  have pw := hl.pw
  rw [split, List.pairwise_append] at pw
  obtain ⟨_, p2, p3⟩ := pw
  rw [List.pairwise_cons] at p2
  have lel : ∀ {x y : Str}, leL x y → x.length ≤ y.length := fun h => by rcases h with h | ⟨h, _⟩ <;> omega
  have a1 : m ≤ w.length := by
    rcases hm.has with e | ⟨z, hz, e⟩
    · omega
    · have := lel (p3 z hz w (List.mem_cons_self ..))
      omega
  have pos := occ_pos ((hl.mem w).mp wm)
  refine ⟨?_, pos, ⟨fun z hz => ?_, .inr ⟨w, by simp, rfl⟩⟩⟩
  · rcases Nat.lt_or_ge (m + 1) w.length with c | c
    · obtain ⟨y, hy, ey⟩ := occ_less ((hl.mem w).mp wm) (m := w.length - 2) (by omega)
      have ym := (hl.mem y).mpr hy
      rw [split] at ym
      rcases List.mem_append.mp ym with m1 | m1
      · have := hm.le y m1
        omega
      · rcases List.mem_cons.mp m1 with e | m2
        · rw [e] at ey
          omega
        · have := lel (p2.1 y m2)
          omega
    · omega
  · rcases List.mem_append.mp hz with m1 | m1
    · exact lel (p3 z m1 w (List.mem_cons_self ..))
    · rw [List.mem_singleton.mp m1]
      exact Nat.le_refl _
theorem filter_both {α : Type} (f : α → Bool) : ∀ p : List α, p.length = (p.filter f).length + (p.filter fun z => !f z).length
  | [] => rfl
  | x :: r => by
    have ih := filter_both f r
    cases e : f x with
    | true =>
      rw [List.filter_cons_of_pos e, List.filter_cons_of_neg (by rw [e]; decide), List.length_cons, List.length_cons]
      omega
    | false =>
      rw [List.filter_cons_of_neg (by rw [e]; decide), List.filter_cons_of_pos (by rw [e]; rfl), List.length_cons, List.length_cons]
      omega
/-- all of them together -/
theorem cnts_sum : ∀ {p : List Str} {m : Nat}, (∀ z ∈ p, 0 < z.length ∧ z.length ≤ m) → (cntsTo m p).sum = (p.length : Int)
  | p, 0, h => by
    have : p = [] := List.eq_nil_iff_forall_not_mem.mpr fun z hz => by have := h z hz; omega
    subst this
    rfl
  | p, m + 1, h => by
    have e1 : (cntsTo (m + 1) p) = cntsTo m (p.filter fun z => decide (z.length ≤ m)) ++ [((cntOf m p : Nat) : Int)] := by
      unfold cntsTo
      rw [List.range_succ, List.map_append]
      congr 1
      refine List.map_congr_left fun k hk => ?_
      have hk := List.mem_range.mp hk
      show ((cntOf k p : Nat) : Int) = _
      unfold cntOf
      rw [List.filter_filter]
      congr 2
      refine List.filter_congr fun z _ => ?_
      by_cases c : z.length = k + 1
      · rw [decide_eq_true c, decide_eq_true (by omega : z.length ≤ m)]
        rfl
      · rw [decide_eq_false c]
        rfl
    have ih := cnts_sum (p := p.filter fun z => decide (z.length ≤ m)) (m := m) fun z hz => by
      obtain ⟨h1, h2⟩ := List.mem_filter.mp hz
      exact ⟨(h z h1).1, of_decide_eq_true h2⟩
    rw [e1, List.sum_append, ih]
    have : (p.filter fun z => decide (z.length ≤ m)).length + cntOf m p = p.length := by
      have e2 := filter_both (fun z : Str => decide (z.length ≤ m)) p
      have e3 : cntOf m p = (p.filter fun z => !decide (z.length ≤ m)).length := by
        unfold cntOf
        congr 1
        refine List.filter_congr fun z hz => ?_
        have := h z hz
        by_cases c : z.length = m + 1
        · rw [decide_eq_true c, decide_eq_false (by omega)]
          rfl
        · rw [decide_eq_false c, decide_eq_true (by omega)]
          rfl
      omega
    simp only [List.sum_cons, List.sum_nil]
    omega
end SH
set_option Elab.async false
set_option linter.all false
set_option maxRecDepth 100000
set_option maxHeartbeats 4000000
/-! set(a text), len(a set) -/
namespace SH
open PySem PySem.Spec PyProof.Rows L2
section
variable {prog : Program} {w : World} {A : Around} {R : Result → Shared → Prop} {I : Addr} {fp wr : List Addr} {G : Array GenState → Array GenState → Prop} {n : Nat} {P : Nat → Value → Prop} {St : Nat → Shared → Prop}
/-- how many, some of them equal -/
def nDist : List Key → Nat
  | [] => 0
  | k :: r => if r.any (fun j => decide (j = k)) = true then nDist r else nDist r + 1
theorem anyK {k : Key} {r : List Key} : r.any (fun j => decide (j = k)) = true ↔ k ∈ r := by
  rw [List.any_eq_true]
  exact ⟨fun ⟨x, hx, e⟩ => of_decide_eq_true e ▸ hx, fun h => ⟨k, h, decide_eq_true rfl⟩⟩
theorem nDist_le : ∀ l : List Key, nDist l ≤ l.length
  | [] => Nat.le_refl _
  | k :: r => by
    have := nDist_le r
    unfold nDist
    split
    · exact Nat.le_succ_of_le this
    · exact Nat.succ_le_succ this
theorem loopKey (W : WalksS prog w A.in1 I fp wr G n P St) (S : Addr) (hSf : S ∉ fp) (ks : List Key) (hsz : ks.length = n) (hn1 : n + 1 < scanBound)
    (hval : ∀ i v, P i v → ∃ k, ks[i]? = some k ∧ RelV (kV k) v) :
    ∀ (k i : Nat) (s : Shared) (S0 : Key → Bool), n - i = k → i ≤ n → St i s → (∀ j, S0 j = true ↔ j ∈ ks.take i) →
      s.heap.SetOf (mixKind prog w) S S0 (nDist (ks.take i).reverse) →
      (∀ s' S1, Moved (S :: wr) G s s' → (∀ j, S1 j = true ↔ j ∈ ks) → s'.heap.SetOf (mixKind prog w) S S1 (nDist ks.reverse) → R (.ok (.ret .none)) s') →
      codeAny (model prog w) A (.builtin "set.update.loop" ⟨[.ref S, .ref I], []⟩) R s := by
  have hSw : S ∉ wr := fun h => hSf (W.sub _ h)
  have hsub : ∀ b ∈ wr, b ∈ S :: wr := fun b hb => List.mem_cons_of_mem _ hb
  intro k
  induction k with
  | zero =>
    intro i s S0 hk hi hst hS0 hS hR
    have hin : i = n := by omega
    subst hin
    rw [List.take_of_length_le (by omega)] at hS0 hS
    refine codeAny_builtin PyProof.Rows.F.entry_set_update_loop ?_
    rw [Around.under_plainId PyProof.Rows.F.plain_set_update_loop _]
    show wpAny _ A.in1 (pyNext (.ref I) >>= _) _ _ s
    refine wpAny_bind (W.done s _ _ hst fun s' hm => ?_)
    show wpAny _ A.in1 (ret Value.none) _ _ s'
    exact wpAny_pure (hR s' S0 (hm.mono hsub) hS0 (by
      obtain ⟨o, es, ep, t, ho, rest⟩ := hS
      exact ⟨o, es, ep, t, hm.heap S _ hSw ho, rest⟩))
  | succ k ih =>
    intro i s S0 hk hi hst hS0 hS hR
    have hlt : i < n := by omega
    refine codeAny_builtin PyProof.Rows.F.entry_set_update_loop ?_
    rw [Around.under_plainId PyProof.Rows.F.plain_set_update_loop _]
    show wpAny _ A.in1 (pyNext (.ref I) >>= _) _ _ s
    refine wpAny_bind (W.item i s _ _ hlt hst fun v s' hP hst' hm => ?_)
    obtain ⟨kk, hkk, rk⟩ := hval i v hP
    have hS' : s'.heap.SetOf (mixKind prog w) S S0 (nDist (ks.take i).reverse) := by
      obtain ⟨o, es, ep, tb, ho, rest⟩ := hS
      exact ⟨o, es, ep, tb, hm.heap S _ hSw ho, rest⟩
    show wpAny _ A.in1 (holding [v] (setAdd S v) >>= _) _ _ s'
    refine wpAny_bind (wpAny_holding ?_)
    unfold setAdd
    refine wpAny_holding ?_
    refine wpAny_bind ((mixKind prog w).pyHash (k := kk) (kV_is rk) ?_)
    have tk : ks.take (i + 1) = ks.take i ++ [kk] := by rw [List.take_add_one, hkk]; rfl
    have nd : nDist (ks.take (i + 1)).reverse = if S0 kk = true then nDist (ks.take i).reverse else nDist (ks.take i).reverse + 1 := by
      rw [tk, List.reverse_append]
      show (if (ks.take i).reverse.any (fun j => decide (j = kk)) = true then nDist (ks.take i).reverse else nDist (ks.take i).reverse + 1) = _
      by_cases c : S0 kk = true
      · rw [if_pos c, if_pos (anyK.mpr (List.mem_reverse.mpr ((hS0 kk).mp c)))]
      · rw [if_neg c, if_neg fun z => c ((hS0 kk).mpr (List.mem_reverse.mp (anyK.mp z)))]
    refine wpAny_setAddHashed_of (knd := mixKind prog w) (s := { s' with toks := s'.toks + 1 }) (kV_is rk) (key_scan rk) hS' ?_ fun h' hsb hS2 => ?_
    · have h1 := nDist_le (ks.take i).reverse
      rw [List.length_reverse, List.length_take] at h1
      omega
    refine wpAny_pure ⟨plainId_quiet PyProof.Rows.F.plain_set_update_loop _, ih (i + 1) _ (fun j => S0 j || decide (j = kk)) (by omega) hlt (W.frame _ s' _ _ hst' (Nat.le_succ _) fun b hb o e => ?_) (fun j => ?_) ?_ fun s'' S1 hm'' h1 hS'' => ?_⟩
    · rw [hsb.2 b (fun h : b = S => hSf (by rw [← h]; exact hb))]; exact e
    · rw [tk, Bool.or_eq_true, hS0 j, decide_eq_true_eq, List.mem_append, List.mem_singleton]
    · rw [nd]
      exact hS2
    · refine hR s'' S1 (Moved.trans W.gtrans ((hm.mono hsub).then_heap (Nat.le_succ _) fun b o hb e => ?_) hm'') h1 hS''
      rw [hsb.2 b (fun h : b = S => hb (by rw [h]; exact List.mem_cons_self))]; exact e
end
def signs (z : Str) : List Key := z.cps.toList.map fun c => .inr ⟨#[c]⟩
section
variable {prog : Program} {w : World} {A : Around} {E : Value → Shared → Prop} {s : Shared}
set_option maxHeartbeats 3200000 in
theorem call_set_str {z : Str} {t : Tok} {Q : Value → Shared → Prop}
    (hh : A.handled = none) (hn1 : z.cps.size + 1 < scanBound)
    (h : ∀ (h' : Heap) (tk : Nat) (S1 : Key → Bool), (∀ j, S1 j = true ↔ j ∈ signs z) → h'.SetOf (mixKind prog w) s.heap.objs.size S1 (nDist (signs z).reverse) →
      (∀ b o, b < s.heap.objs.size → s.heap.get? b = some o → h'.get? b = some o) → Q (.ref s.heap.objs.size) { s with heap := h', toks := tk }) :
    wpAny (model prog w) A (call (.type "set") [.str z t]) Q E s := by
  obtain ⟨c, tl, hmro⟩ := PySem.F.called_set.mro
  have hmade := PySem.F.called_set.made
  have hsub := PySem.F.called_set.sub
  refine wpAny_call (codeAny_of_tree ?_)
  show wpAny _ _ (callAny (.type "set") _) _ _ _
  refine wpAny_pure ⟨Code.quiet_builtin _ (by decide +kernel), codeAny_builtin PySem.F.entry_type_call ?_⟩
  rw [Around.under_plain (weight_type_call_type "set" [.str z t] []) rfl]
  have h1 := PySem.F.called_set.notType
  have h2 := PySem.F.called_set.canCreate
  have hct := PySem.F.typeCall_set_1 (.str z t)
  repeat (any_goals (first | assumption | wp_step))
  refine codeAny_mono (code_set_new_1 (.str z t) (E := E) (Q₁ := fun obj s₁ => ∃ led : Bool, obj = .ref s.heap.objs.size ∧ s₁ = { s with heap := s.heap.push { cls := .type "set", dict := none, data := .set #[] 0 (.fresh 0 0 led) } }) fun led => ⟨led, rfl, rfl⟩) fun r s₁ hr => ?_
  cases r with
  | error e => exact hr
  | ok fl =>
    cases fl with
    | ret obj =>
      obtain ⟨led, rfl, rfl⟩ := hr
      have hS : (s.heap.push { cls := .type "set", dict := none, data := .set #[] 0 (.fresh 0 0 led) }).get? s.heap.objs.size = some { cls := .type "set", dict := none, data := .set #[] 0 (.fresh 0 0 led) } := Heap.get?_push_size _ rfl
      have hT : Shared.TypeIs { s with heap := s.heap.push { cls := .type "set", dict := none, data := .set #[] 0 (.fresh 0 0 led) } } (.ref s.heap.objs.size) "set" := ⟨_, hS, rfl⟩
      have hli := PySem.F.called_set.init.lookup
      have hbi := PySem.F.called_set.init.bind (.ref s.heap.objs.size)
      repeat (any_goals (first | assumption | wp_step))
      refine codeAny_mono (codeAny_call_builtin (R := wants (fun r s₂ => r = .none ∧ ∃ h' tk S1, s₂ = { s with heap := h', toks := tk } ∧ (∀ j, S1 j = true ↔ j ∈ signs z) ∧
          h'.SetOf (mixKind prog w) s.heap.objs.size S1 (nDist (signs z).reverse) ∧
          (∀ b o, b < s.heap.objs.size → s.heap.get? b = some o → h'.get? b = some o)) E) PySem.F.called_set.init.plain PySem.F.entry_set_init (check_set_init_1 hT ?_)) fun r₂ s₂ hr₂ => ?_
      · have hTs : Shared.TypeIs { s with heap := s.heap.push { cls := .type "set", dict := none, data := .set #[] 0 (.fresh 0 0 led) } } (.str z t) "str" := rfl
        have hsls : isSubtype (Value.type "str") (Value.type "set") = pure false := by rw [isSubtype_type]; kernel_rfl
        have hslf : isSubtype (Value.type "str") (Value.type "frozenset") = pure false := by rw [isSubtype_type]; kernel_rfl
        have hne : (Value.type "str" == Value.type "dict") = false := by decide
        unfold Builtin.«set.__init__» noKeywords Builtin.Frozenset.updateFrom
        generalize hPI : pyIter = PI
        wp_walk
        subst hPI
        refine wpAny_pyIter_str fun o St W st0 => ?_
        refine wpAny_bind (wpAny_runValue ?_)
        have hh3 : A.in1.in1.in1.handled = none := by simp [hh]
        have hSf : s.heap.objs.size ∉ [(s.heap.push { cls := .type "set", dict := none, data := .set #[] 0 (.fresh 0 0 led) }).objs.size] := by
          rw [Heap.size_push]; simp only [List.mem_singleton]
          exact Nat.ne_of_lt (Nat.lt_succ_self _)
        have hsz : (signs z).length = z.cps.size := by unfold signs; rw [List.length_map, Array.length_toList]
        refine loopKey ((W _ hh3).toS) s.heap.objs.size hSf (signs z) hsz hn1 (fun i v hv => ?_) (z.cps.size - 0) 0 _ (fun _ => false) (by omega) (Nat.zero_le _) st0 (fun j => by simp) ?hS0 fun s' S1 hm hS1 hS' => ?_
        · obtain ⟨c, u, hc, rfl⟩ := hv
          refine ⟨.inr ⟨#[c]⟩, ?_, u, rfl⟩
          unfold signs
          rw [List.getElem?_map, Array.getElem?_toList, hc]
          rfl
        case hS0 =>
          have hget : ((s.heap.push { cls := .type "set", dict := none, data := .set #[] 0 (.fresh 0 0 led) }).push o).get? s.heap.objs.size
              = some { cls := .type "set", dict := none, data := .set #[] 0 (.fresh 0 0 led) } := Heap.get?_push_of_some _ hS
          exact ⟨_, #[], 0, _, hget, ⟨rfl, rfl, rfl⟩, rfl, (fun e he => by simp at he), (fun k => by simp), (by decide), (by rfl), rfl⟩
        · obtain ⟨h', g', d', tk', os'⟩ := s'
          have eg : g' = s.gens := hm.gens
          have ed : d' = s.drawn := hm.drawn
          have eo : os' = s.os := hm.os
          subst eg; subst ed; subst eo
          show wpAny _ _ _ _ _ _
          refine wpAny_pure ?_
          show wpAny _ _ (ret Value.none) _ _ _
          refine wpAny_pure ⟨rfl, h', tk', S1, rfl, hS1, hS', fun b o' hb e => ?_⟩
          have hb1 : b ≠ s.heap.objs.size := Nat.ne_of_lt hb
          have hb2 : b ≠ (s.heap.push { cls := .type "set", dict := none, data := .set #[] 0 (.fresh 0 0 led) }).objs.size := by
            rw [Heap.size_push]; exact Nat.ne_of_lt (Nat.lt_succ_of_lt hb)
          exact hm.heap b o' (by simp only [List.mem_cons, List.mem_singleton, List.not_mem_nil, or_false, not_or]; exact ⟨hb1, hb2⟩) (Heap.get?_push_of_some _ (Heap.get?_push_of_some _ e))
      · cases r₂ with
        | error e => exact hr₂
        | ok fl₂ =>
          cases fl₂ with
          | ret r =>
            obtain ⟨rfl, h', tk, S1, rfl, hS1, hS', hk'⟩ := hr₂
            repeat (any_goals (first | assumption | wp_step))
            exact h _ _ S1 hS1 hS' hk'
          | _ => exact hr₂.elim
    | _ => exact hr.elim
end
section
variable {X : Cx}
/-- set(a text) -/
def rSetTxt (P : Program) (w : World) : List V → Hp → VK → Prop := fun vs H Q => ∃ z : Str, vs = [.str z] ∧ z.length < 4000 ∧
  ∀ (p : Addr) (S1 : Key → Bool), H p = none → (∀ j, S1 j = true ↔ j ∈ signs z) → Q (.ref p) (upd H p (SetK P w p S1 (nDist (signs z).reverse)))
theorem call_setTxt (hc : X.calm = true) : CallR X (.type "set") (rSetTxt X.prog X.w) := by
  intro pins s τ H vs us Q I r h
  obtain ⟨z, rfl, hz, q⟩ := h
  obtain ⟨u, rfl, t, rfl⟩ := vals1 r
  refine call_set_str (I.ok.hd hc) (by have : scanBound = 4096 := rfl; have : z.cps.size = z.length := rfl; omega) fun h' tk S1 hS1 hS k => ?_
  have new : H s.heap.objs.size = none := I.hok.fresh (Nat.le_refl _)
  exact ⟨.ref _, upd H s.heap.objs.size (SetK X.prog X.w s.heap.objs.size S1 (nDist (signs z).reverse)), I.laid (t' := tk) (fun b o e => k b o (Heap.lt_size e) e) (Nat.le_refl _) (setK_new hS), rfl, q _ S1 new hS1⟩
/-- len(a set) -/
def rLenSet (P : Program) (w : World) : List V → Hp → VK → Prop := fun vs H Q => ∃ (a : Addr) (S : Key → Bool) (n : Nat), vs = [.ref a] ∧ (H a = some (SetK P w a S n) ∨ H a = some (SetMO w a S n)) ∧ Q (.int n) H
theorem call_lenSet : CallR X (.builtin "len") (rLenSet X.prog X.w) := by
  intro pins s τ H vs us Q I r h
  obtain ⟨a, S, n, rfl, ha, q⟩ := h
  obtain ⟨u, rfl, ru⟩ := vals1 r
  obtain rfl : u = Value.ref a := ru
  have hS : s.heap.SetOf (mixKind X.prog X.w) a S n := ha.elim (fun ha => setK_get I ha) fun ha => (setMO_get I ha).setOf
  obtain ⟨o, es, ep, t, ho, hex, hd, hel, hmem, hb, hf, hn⟩ := hS
  have hb' : es.size < 4096 := hb
  subst hn
  exact call_len_set ho hex hd hf (by omega) ⟨.int _, H, I.tok _, ⟨_, rfl⟩, q⟩
theorem call_setTxtK {P : Program} {w : World} (hc : X.calm = true) (hp : X.prog = P := by rfl) (hw : X.w = w := by rfl) : CallR X (.type "set") (rSetTxt P w) := hp ▸ hw ▸ call_setTxt hc
theorem call_lenSetK {P : Program} {w : World} (hp : X.prog = P := by rfl) (hw : X.w = w := by rfl) : CallR X (.builtin "len") (rLenSet P w) := hp ▸ hw ▸ call_lenSet
theorem nDist_full : ∀ l : List Key, nDist l = l.length ↔ l.Nodup
  | [] => by simp [nDist]
  | k :: r => by
    have h1 := nDist_le r
    have ih := nDist_full r
    show (if r.any (fun j => decide (j = k)) = true then nDist r else nDist r + 1) = r.length + 1 ↔ _
    rw [List.nodup_cons]
    by_cases c : r.any (fun j => decide (j = k)) = true
    · rw [if_pos c]
      exact ⟨fun h => by omega, fun h => absurd (anyK.mp c) h.1⟩
    · rw [if_neg c]
      exact ⟨fun h => ⟨fun m => c (anyK.mpr m), ih.mp (by omega)⟩, fun h => by rw [ih.mpr h.2]⟩
end
end SH
set_option Elab.async false
set_option linter.all false
set_option maxRecDepth 100000
set_option maxHeartbeats 4000000
/-! a dict of words, each with a list of things -/
namespace SH
open PySem PySem.Spec PyProof.Rows L2
abbrev VT := List (Str × Addr × List V)
def vkvs (T : VT) : List (Key × V) := T.map fun e => ((Sum.inr e.1 : Key), V.ref e.2.1)
/-- what has been met: words and numbers, in order -/
abbrev VOcc := List (Str × V)
structure Vd (H0 H : Hp) (D : Addr) (T : VT) : Prop where
  at_ : H D = some (.dK (vkvs T))
  sm : Same H0 H
  nD : H0 D = none
  kd : (T.map (·.1)).Nodup
  rd : (T.map (·.2.1)).Nodup
  row : ∀ e ∈ T, H e.2.1 = some (.lst e.2.2) ∧ H0 e.2.1 = none
/-- it tells what has been met -/
structure VdOf (T : VT) (O : VOcc) : Prop where
  mem : ∀ z, z ∈ T.map (·.1) ↔ z ∈ O.map (·.1)
  val : ∀ e ∈ T, e.2.2 = (O.filter fun o => decide (o.1 = e.1)).map (·.2)
theorem vkvs_keys (T : VT) : (vkvs T).map (·.1) = (T.map (·.1)).map fun z => (Sum.inr z : Key) := by
  unfold vkvs
  rw [List.map_map, List.map_map]
  rfl
theorem Vd.val_of {H0 H : Hp} {D : Addr} {T : VT} (h : Vd H0 H D T) {e : Str × Addr × List V} (he : e ∈ T) : valV (vkvs T) (.inr e.1) = some (.ref e.2.1) := by
  have kd := h.kd
  unfold vkvs
  clear h
  induction T with
  | nil => cases he
  | cons a r ih =>
    rw [List.map_cons] at kd ⊢
    rw [List.nodup_cons] at kd
    unfold valV
    rcases List.mem_cons.mp he with e1 | m
    · subst e1
      rw [List.find?_cons_of_pos (by simp)]
      rfl
    · have ne : ¬ a.1 = e.1 := fun z => kd.1 (by rw [z]; exact List.mem_map_of_mem m)
      rw [List.find?_cons_of_neg (by simpa using ne)]
      exact ih m kd.2
theorem vkvs_none {T : VT} {z : Str} (h : z ∉ T.map (·.1)) : valV (vkvs T) (.inr z) = none := by
  unfold valV
  rw [List.find?_eq_none.mpr fun x hx => ?_]
  · rfl
  · unfold vkvs at hx
    obtain ⟨e, he, rfl⟩ := List.mem_map.mp hx
    have : ¬ e.1 = z := fun y => h (y ▸ List.mem_map_of_mem he)
    simpa using this
theorem vkvs_put {T : VT} {z : Str} {r : Addr} (h : z ∉ T.map (·.1)) : putK (vkvs T) (.inr z) (.ref r) = vkvs (T ++ [(z, r, [])]) := by
  unfold putK
  rw [if_neg, show vkvs (T ++ [(z, r, [])]) = vkvs T ++ [((Sum.inr z : Key), V.ref r)] by unfold vkvs; rw [List.map_append]; rfl]
  intro y
  obtain ⟨x, hx, e⟩ := List.any_eq_true.mp y
  unfold vkvs at hx
  obtain ⟨e2, he, rfl⟩ := List.mem_map.mp hx
  have := of_decide_eq_true e
  exact h ((Sum.inr.inj this) ▸ List.mem_map_of_mem he)
def vbump (T : VT) (z : Str) (n : V) : VT := T.map fun x => if x.1 = z then (x.1, x.2.1, x.2.2 ++ [n]) else x
theorem vbump_keys (T : VT) (z : Str) (n : V) : (vbump T z n).map (·.1) = T.map (·.1) := by
  unfold vbump
  rw [List.map_map]
  refine List.map_congr_left fun x _ => ?_
  show (if x.1 = z then (x.1, x.2.1, x.2.2 ++ [n]) else x).1 = x.1
  split <;> rfl
theorem vbump_refs (T : VT) (z : Str) (n : V) : (vbump T z n).map (·.2.1) = T.map (·.2.1) := by
  unfold vbump
  rw [List.map_map]
  refine List.map_congr_left fun x _ => ?_
  show (if x.1 = z then (x.1, x.2.1, x.2.2 ++ [n]) else x).2.1 = x.2.1
  split <;> rfl
theorem vbump_kvs (T : VT) (z : Str) (n : V) : vkvs (vbump T z n) = vkvs T := by
  unfold vbump vkvs
  rw [List.map_map]
  refine List.map_congr_left fun x _ => ?_
  show ((Sum.inr (if x.1 = z then (x.1, x.2.1, x.2.2 ++ [n]) else x).1 : Key), V.ref (if x.1 = z then (x.1, x.2.1, x.2.2 ++ [n]) else x).2.1) = _
  split <;> rfl
theorem Vd.rne {H0 H : Hp} {D : Addr} {T : VT} (h : Vd H0 H D T) {e : Str × Addr × List V} (he : e ∈ T) : e.2.1 ≠ D := fun z => by
  have := (h.row e he).1
  rw [z, h.at_] at this
  cases this
theorem vnodup_key {T : VT} (h : (T.map (·.1)).Nodup) {e f : Str × Addr × List V} (he : e ∈ T) (hf : f ∈ T) (k : e.1 = f.1) : e = f := by
  induction T with
  | nil => cases he
  | cons a r ih =>
    rw [List.map_cons, List.nodup_cons] at h
    rcases List.mem_cons.mp he with e1 | m1 <;> rcases List.mem_cons.mp hf with e2 | m2
    · rw [e1, e2]
    · exact (h.1 (by rw [← e1, k]; exact List.mem_map_of_mem (f := fun x : Str × Addr × List V => x.1) m2)).elim
    · exact (h.1 (by rw [← e2, ← k]; exact List.mem_map_of_mem (f := fun x : Str × Addr × List V => x.1) m1)).elim
    · exact ih h.2 m1 m2
theorem vnodup_ref {T : VT} (h : (T.map (·.2.1)).Nodup) {e f : Str × Addr × List V} (he : e ∈ T) (hf : f ∈ T) (k : e.2.1 = f.2.1) : e = f := by
  induction T with
  | nil => cases he
  | cons a r ih =>
    rw [List.map_cons, List.nodup_cons] at h
    rcases List.mem_cons.mp he with e1 | m1 <;> rcases List.mem_cons.mp hf with e2 | m2
    · rw [e1, e2]
    · exact (h.1 (by rw [← e1, k]; exact List.mem_map_of_mem (f := fun x : Str × Addr × List V => x.2.1) m2)).elim
    · exact (h.1 (by rw [← e2, ← k]; exact List.mem_map_of_mem (f := fun x : Str × Addr × List V => x.2.1) m1)).elim
    · exact ih h.2 m1 m2
/-- a word more -/
theorem Vd.new {H0 H : Hp} {D : Addr} {T : VT} (h : Vd H0 H D T) {z : Str} (hz : z ∉ T.map (·.1)) {r : Addr} (nr : H r = none) : Vd H0 (upd (upd H r (.lst [])) D (.dK (vkvs (T ++ [(z, r, [])])))) D (T ++ [(z, r, [])]) := by
  have rD : r ≠ D := fun e => by rw [e, h.at_] at nr; cases nr
  refine ⟨upd_same, same_mut (h.sm.trans (same_new nr)) h.nD, h.nD, ?_, ?_, fun e m => ?_⟩
  · rw [List.map_append, List.nodup_append]
    exact ⟨h.kd, by simp, fun a ha b hb e => by rw [List.mem_singleton.mp hb] at e; exact hz (by rw [← show a = z from e]; exact ha)⟩
  · rw [List.map_append, List.nodup_append]
    refine ⟨h.rd, by simp, fun a ha b hb e => ?_⟩
    rw [List.mem_singleton.mp hb] at e
    obtain ⟨x, hx, rfl⟩ := List.mem_map.mp ha
    have := (h.row x hx).1
    rw [show x.2.1 = r from e, nr] at this
    cases this
  · rcases List.mem_append.mp m with m | m
    · rw [upd_ne (h.rne m)]
      exact ⟨same_new nr _ _ (h.row e m).1, (h.row e m).2⟩
    · rw [List.mem_singleton.mp m]
      exact ⟨by rw [upd_ne rD]; exact upd_same, h.sm.free nr⟩
/-- a number more behind a word -/
theorem Vd.app {H0 H : Hp} {D : Addr} {T : VT} (h : Vd H0 H D T) {e : Str × Addr × List V} (he : e ∈ T) (n : V) : Vd H0 (upd H e.2.1 (.lst (e.2.2 ++ [n]))) D (vbump T e.1 n) := by
  refine ⟨?_, same_mut h.sm (h.row e he).2, h.nD, by rw [vbump_keys]; exact h.kd, by rw [vbump_refs]; exact h.rd, fun x hx => ?_⟩
  · rw [upd_ne (fun z => h.rne he z.symm), vbump_kvs]
    exact h.at_
  · unfold vbump at hx
    obtain ⟨y, hy, rfl⟩ := List.mem_map.mp hx
    by_cases c : y.1 = e.1
    · have := vnodup_key h.kd hy he c
      subst this
      rw [if_pos rfl]
      exact ⟨upd_same, (h.row y hy).2⟩
    · rw [if_neg c]
      rw [upd_ne (fun z => c (congrArg (·.1) (vnodup_ref h.rd hy he z)))]
      exact h.row y hy
theorem VdOf.vbump {T : VT} {O : VOcc} {z : Str} {n : V} (hs : ∀ y, y ∈ T.map (·.1) ↔ y ∈ O.map (·.1) ∨ y = z) (hv : ∀ e ∈ T, e.2.2 = (O.filter fun o => decide (o.1 = e.1)).map (·.2)) : VdOf (SH.vbump T z n) (O ++ [(z, n)]) := by
  refine ⟨fun y => ?_, fun e he => ?_⟩
  · rw [vbump_keys, hs y, List.map_append, List.mem_append]
    exact or_congr Iff.rfl List.mem_singleton.symm
  · unfold SH.vbump at he
    obtain ⟨x, hx, rfl⟩ := List.mem_map.mp he
    rw [List.filter_append, List.map_append]
    by_cases c : x.1 = z
    · rw [if_pos c]
      show x.2.2 ++ [n] = (O.filter fun o => decide (o.1 = x.1)).map (·.2) ++ ([((z, n) : Str × V)].filter fun o => decide (o.1 = x.1)).map (·.2)
      rw [← hv x hx, List.filter_cons_of_pos (p := fun o : Str × V => decide (o.1 = x.1)) (decide_eq_true (show z = x.1 from c.symm))]
      rfl
    · rw [if_neg c]
      show x.2.2 = (O.filter fun o => decide (o.1 = x.1)).map (·.2) ++ ([((z, n) : Str × V)].filter fun o => decide (o.1 = x.1)).map (·.2)
      rw [← hv x hx, List.filter_cons_of_neg (p := fun o : Str × V => decide (o.1 = x.1)) (by simpa using fun y : z = x.1 => c y.symm)]
      exact (List.append_nil _).symm
theorem Vd.same {H0 H H' : Hp} {D : Addr} {T : VT} (s : Same H H') (h : Vd H0 H D T) : Vd H0 H' D T := ⟨s _ _ h.at_, h.sm.trans s, h.nD, h.kd, h.rd, fun e m => ⟨s _ _ (h.row e m).1, (h.row e m).2⟩⟩
end SH
set_option Elab.async false
set_option linter.all false
set_option maxRecDepth 100000
set_option maxHeartbeats 4000000
/-! the least words that are missing -/
namespace SH
open PySem PySem.Spec PyProof.Rows L2
theorem StrL.of {O : List Str} {l : List Str} (nd : l.Nodup) (pw : l.Pairwise leL) (m : ∀ z, z ∈ l ↔ z ∈ O) : StrL O l := ⟨nd, pw, m⟩
/-! ### pairs of a size and a text, sorted -/
def eLen (z : Str) : PyData := .tuple [.int z.length, .str z]
theorem eLen_lt (x y : Str) : PySem.W.dataLt (eLen x) (eLen y) = decide (x.length < y.length ∨ (x.length = y.length ∧ x.cps.toList < y.cps.toList)) := by
  unfold eLen
  rw [PySem.W.dataLt_tuple, PySem.W.dataLt_cons (by simp [PySem.W.alike]), PySem.W.dataLt_cons (by simp [PySem.W.alike])]
  have e : PyProof.Rows.lexLt itemOrd (PySem.W.keyToksAll []) (PySem.W.keyToksAll []) = false := lex_irrefl _
  rw [e, eqv_int, eqv_str, PySem.W.dataLt_int, PySem.W.dataLt_str]
  by_cases a : x.length = y.length
  · have a2 : (x.length : Int) = (y.length : Int) := by omega
    by_cases b : x = y
    · rw [decide_eq_true a2, decide_eq_true b]
      symm
      refine decide_eq_false ?_
      rintro (h | ⟨_, h⟩)
      · omega
      · rw [b] at h
        exact List.lt_irrefl _ h
    · rw [decide_eq_true a2, decide_eq_false b]
      show decide (x.cps.toList < y.cps.toList) = _
      exact decide_eq_decide.mpr ⟨fun h => .inr ⟨a, h⟩, fun h => h.elim (fun h => by omega) fun h => h.2⟩
  · have a2 : ¬ (x.length : Int) = (y.length : Int) := by omega
    rw [decide_eq_false a2]
    show decide ((x.length : Int) < (y.length : Int)) = _
    exact decide_eq_decide.mpr ⟨fun h => .inl (by omega), fun h => h.elim (fun h => by omega) fun h => absurd h.1 a⟩
theorem eLen_le : ∀ {x y : Str}, PySem.W.dataLe false eLen x y = true → leL x y := fun {x y} h => by
  have h : (!PySem.W.dataLt (eLen y) (eLen x)) = true := h
  rw [eLen_lt] at h
  have h : ¬ (y.length < x.length ∨ (y.length = x.length ∧ y.cps.toList < x.cps.toList)) := fun z => by rw [decide_eq_true z] at h; cases h
  rcases Nat.lt_trichotomy x.length y.length with c | c | c
  · exact .inl c
  · exact .inr ⟨c, List.not_lt.mp fun z => h (.inr ⟨c.symm, z⟩)⟩
  · exact absurd (.inl c) h
theorem leL_le {x y : Str} (h : leL x y) : PySem.W.dataLe false eLen x y = true := by
  show (!PySem.W.dataLt (eLen y) (eLen x)) = true
  rw [eLen_lt, decide_eq_false]
  · rfl
  · rintro (a | ⟨a, b⟩) <;> rcases h with c | ⟨c, d⟩
    · omega
    · omega
    · omega
    · exact absurd b (List.not_lt.mpr d)
theorem leL_tr {x y z : Str} (h : leL x y) (k : leL y z) : leL x z := by
  rcases h with a | ⟨a, b⟩ <;> rcases k with c | ⟨c, d⟩
  · exact .inl (by omega)
  · exact .inl (by omega)
  · exact .inl (by omega)
  · exact .inr ⟨a.trans c, List.le_trans b d⟩
theorem leL_tot (x y : Str) : leL x y ∨ leL y x := by
  rcases Nat.lt_trichotomy x.length y.length with c | c | c
  · exact .inl (.inl c)
  · rcases List.le_total x.cps.toList y.cps.toList with d | d
    · exact .inl (.inr ⟨c, d⟩)
    · exact .inr (.inr ⟨c.symm, d⟩)
  · exact .inr (.inl c)
theorem eLen_sort (l : List Str) : (l.mergeSort (PySem.W.dataLe false eLen)).Pairwise leL := by
  refine (List.pairwise_mergeSort (le := PySem.W.dataLe false eLen) (fun x y z a b => leL_le (leL_tr (eLen_le a) (eLen_le b))) (fun x y => ?_) l).imp eLen_le
  rcases leL_tot x y with h | h
  · rw [leL_le h]; rfl
  · rw [leL_le h, Bool.or_true]
theorem str_sort (l : List Str) : (l.mergeSort (PySem.W.dataLe false PyData.str)).Pairwise (fun x y => x.cps.toList ≤ y.cps.toList) := by
  have e : PySem.W.dataLe false PyData.str = fun x y : Str => !decide (y.cps.toList < x.cps.toList) := by
    funext x y
    show (!PySem.W.dataLt (.str y) (.str x)) = _
    rw [PySem.W.dataLt_str]
  rw [e]
  refine (List.pairwise_mergeSort (le := fun x y : Str => !decide (y.cps.toList < x.cps.toList)) (fun x y z a b => ?_) (fun x y => ?_) l).imp fun {x y} a => List.not_lt.mp fun z => by rw [decide_eq_true z] at a; cases a
  · have a' : x.cps.toList ≤ y.cps.toList := List.not_lt.mp fun z => by rw [decide_eq_true z] at a; cases a
    have b' : y.cps.toList ≤ z.cps.toList := List.not_lt.mp fun z => by rw [decide_eq_true z] at b; cases b
    rw [decide_eq_false (List.not_lt.mpr (List.le_trans a' b'))]
    rfl
  · rcases List.le_total x.cps.toList y.cps.toList with a | a
    · rw [decide_eq_false (List.not_lt.mpr a)]
      rfl
    · rw [decide_eq_false (List.not_lt.mpr a), Bool.not_false, Bool.or_true]
/-! ### first and last letters left out -/
def dl (z : Str) : Str := cutS z none (some (-1))
def rst (z : Str) : Str := cutS z (some 1) none
def sg (c : Nat) : Str := ⟨#[c]⟩
theorem sg_tl (c : Nat) : TL.tl (sg c) = [c] := rfl
theorem rst_tl (z : Str) : TL.tl (rst z) = (TL.tl z).drop 1 := by
  have := suf_tl z 1
  exact this
theorem dl_tl (z : Str) : TL.tl (dl z) = (TL.tl z).dropLast := by
  unfold dl cutS
  show ((TL.tl z).drop (HT.sIx z.length 0 none)).take (HT.sIx z.length z.length (some (-1)) - HT.sIx z.length 0 none) = _
  have e0 : HT.sIx z.length 0 none = 0 := rfl
  have e1 : HT.sIx z.length z.length (some (-1)) = z.length - 1 := by
    unfold HT.sIx
    simp
    omega
  rw [e0, e1, List.drop_zero, List.dropLast_eq_take]
  rfl
theorem app_tl (x y : Str) : TL.tl (x ++ y) = TL.tl x ++ TL.tl y := TL.tl_append x y
theorem dl_app (z : Str) (c : Nat) : dl (z ++ sg c) = z := tl_inj (by rw [dl_tl, app_tl, sg_tl, List.dropLast_concat])
theorem rst_app {z : Str} (c : Nat) (h : 0 < z.length) : rst (z ++ sg c) = rst z ++ sg c := tl_inj (by
  rw [rst_tl, app_tl, app_tl, rst_tl, List.drop_append_of_le_length (show 1 ≤ (TL.tl z).length from h)])
theorem app_sg_inj {x y : Str} {c d : Nat} (h : x ++ sg c = y ++ sg d) : x = y ∧ c = d := by
  have e := congrArg TL.tl h
  rw [app_tl, app_tl, sg_tl, sg_tl] at e
  obtain ⟨e1, e2⟩ := List.append_inj' e rfl
  exact ⟨tl_inj e1, by cases e2; rfl⟩
theorem split_last {z : Str} (h : 0 < z.length) : ∃ c, c ∈ TL.tl z ∧ z = dl z ++ sg c := by
  have n : TL.tl z ≠ [] := List.length_pos_iff.mp (show 0 < (TL.tl z).length from h)
  refine ⟨(TL.tl z).getLast n, List.getLast_mem n, tl_inj ?_⟩
  rw [app_tl, dl_tl, sg_tl, List.dropLast_concat_getLast]
theorem dl_len {z : Str} : (dl z).length = z.length - 1 := by
  have := congrArg List.length (dl_tl z)
  rw [List.length_dropLast] at this
  exact this
theorem rst_len {z : Str} : (rst z).length = z.length - 1 := by
  have := congrArg List.length (rst_tl z)
  rw [List.length_drop] at this
  exact this
theorem sg_len (z : Str) (c : Nat) : (z ++ sg c).length = z.length + 1 := by
  have := congrArg List.length (app_tl z (sg c))
  rw [sg_tl, List.length_append] at this
  exact this
theorem nil_sg (c : Nat) : (Str.empty ++ sg c) = sg c := tl_inj (by rw [app_tl]; rfl)
/-- of these letters -/
def okA (al z : Str) : Prop := ∀ c ∈ TL.tl z, c ∈ TL.tl al
instance (al z : Str) : Decidable (okA al z) := inferInstanceAs (Decidable (∀ c ∈ TL.tl z, c ∈ TL.tl al))
theorem okA_app {al x y : Str} : okA al (x ++ y) ↔ okA al x ∧ okA al y := by
  unfold okA
  rw [app_tl]
  exact ⟨fun h => ⟨fun c m => h c (List.mem_append_left _ m), fun c m => h c (List.mem_append_right _ m)⟩, fun h c m => (List.mem_append.mp m).elim (h.1 c) (h.2 c)⟩
theorem okA_sg {al : Str} {c : Nat} : okA al (sg c) ↔ c ∈ TL.tl al := ⟨fun h => h c (List.mem_singleton.mpr rfl), fun h d m => by rw [sg_tl] at m; rw [List.mem_singleton.mp m]; exact h⟩
theorem okA_dl {al z : Str} (h : okA al z) : okA al (dl z) := fun c m => h c (by rw [dl_tl] at m; exact List.dropLast_subset _ m)
theorem okA_rst {al z : Str} (h : okA al z) : okA al (rst z) := fun c m => h c (by rw [rst_tl] at m; exact List.mem_of_mem_drop m)
/-- a least word that is missing -/
def MinA (O : List Str) (al z : Str) : Prop := okA al z ∧ z ∉ O ∧ (z.length = 1 ∨ (2 ≤ z.length ∧ dl z ∈ O ∧ rst z ∈ O))
theorem MinA.cong {O O' : List Str} (e : ∀ z, z ∈ O ↔ z ∈ O') {al z : Str} : MinA O al z ↔ MinA O' al z := by
  unfold MinA
  rw [e z, e (dl z), e (rst z)]
theorem MinA.rev {O : List Str} {al bl z : Str} (e : ∀ c, c ∈ TL.tl al ↔ c ∈ TL.tl bl) : MinA O al z ↔ MinA O bl z := by
  have : okA al z ↔ okA bl z := ⟨fun h c m => (e c).mp (h c m), fun h c m => (e c).mpr (h c m)⟩
  unfold MinA
  rw [this]
/-- one text within another -/
def within (d z : Str) : Prop := ∃ x y, TL.tl z = x ++ TL.tl d ++ y
theorem within_refl (z : Str) : within z z := ⟨[], [], by simp⟩
theorem within_dl {d z : Str} (h : within d (dl z)) (hz : 0 < z.length) : within d z := by
  obtain ⟨c, _, e⟩ := split_last hz
  obtain ⟨x, y, h⟩ := h
  refine ⟨x, y ++ [c], ?_⟩
  rw [e, app_tl, h, sg_tl, List.append_assoc, List.append_assoc]
theorem within_rst {d z : Str} (h : within d (rst z)) : within d z := by
  obtain ⟨x, y, h⟩ := h
  rw [rst_tl] at h
  cases e : TL.tl z with
  | nil => exact ⟨x, y, by rw [e] at h ⊢; exact h⟩
  | cons c r =>
    rw [e] at h
    exact ⟨c :: x, y, by rw [e, show (c :: x) ++ TL.tl d ++ y = c :: (x ++ TL.tl d ++ y) by simp, ← h]; rfl⟩
theorem within_in {d z : Str} (h : within d z) : (!(Builtin.Str.occurrences z d 0 z.length 1).isEmpty) = true := by
  rw [StrLaws.found_iff]
  obtain ⟨x, y, h⟩ := h
  have hl := congrArg List.length h
  rw [List.length_append, List.length_append] at hl
  have e1 : (TL.tl z).length = z.length := rfl
  have e2 : (TL.tl d).length = d.length := rfl
  refine ⟨x.length, by omega, ?_⟩
  rw [StrLaws.subAt_eq]
  refine beq_iff_eq.mpr ?_
  show ((TL.tl z).drop x.length).take d.length = TL.tl d
  rw [h, List.append_assoc, List.drop_left' rfl, List.take_left' (show (TL.tl d).length = d.length from rfl)]
/-- a word that is missing has a least one within it -/
theorem minA_in {O : List Str} {al : Str} : ∀ (n : Nat) (z : Str), z.length ≤ n → 0 < z.length → okA al z → z ∉ O → ∃ d, MinA O al d ∧ within d z
  | 0, z, h, h0, _, _ => by omega
  | n + 1, z, h, h0, ok, no => by
    by_cases c1 : z.length = 1
    · exact ⟨z, ⟨ok, no, .inl c1⟩, within_refl z⟩
    · by_cases c2 : dl z ∈ O
      · by_cases c3 : rst z ∈ O
        · exact ⟨z, ⟨ok, no, .inr ⟨by omega, c2, c3⟩⟩, within_refl z⟩
        · obtain ⟨d, h1, h2⟩ := minA_in n (rst z) (by rw [rst_len]; omega) (by rw [rst_len]; omega) (okA_rst ok) c3
          exact ⟨d, h1, within_rst h2⟩
      · obtain ⟨d, h1, h2⟩ := minA_in n (dl z) (by rw [dl_len]; omega) (by rw [dl_len]; omega) (okA_dl ok) c2
        exact ⟨d, h1, within_dl h2 h0⟩
/-! ### found by words and letters -/
/-- the last letters of the words that begin so -/
def lastC (z : Str) : Nat := (TL.tl z).getLastD 0
theorem lastC_app (z : Str) (c : Nat) : lastC (z ++ sg c) = c := by
  unfold lastC
  rw [app_tl, sg_tl, List.getLastD_concat]
theorem lastC_at {z : Str} (h : 0 < z.length) : atI z.cps.toList (-1) = some (lastC z) := by
  obtain ⟨c, _, e⟩ := split_last h
  have e2 : z.cps.toList = TL.tl (dl z) ++ [c] := by
    have := congrArg TL.tl e
    rw [app_tl, sg_tl] at this
    exact this
  have e3 : lastC z = c := by rw [e, lastC_app]
  rw [e2, e3]
  exact atI_last _ _
def behL (W : List Str) (u : Str) : List Nat := (W.filter fun x => decide (dl x = u)).map lastC
theorem mem_behL {W : List Str} (hW : ∀ w ∈ W, 0 < w.length) {u : Str} {c : Nat} : c ∈ behL W u ↔ (u ++ sg c) ∈ W := by
  unfold behL
  rw [List.mem_map]
  constructor
  · rintro ⟨x, hx, rfl⟩
    obtain ⟨h1, h2⟩ := List.mem_filter.mp hx
    obtain ⟨c, _, e⟩ := split_last (hW x h1)
    have h2 := of_decide_eq_true h2
    rw [h2] at e
    have : lastC x = c := by rw [e, lastC_app]
    rw [this, ← e]
    exact h1
  · intro h
    exact ⟨u ++ sg c, List.mem_filter.mpr ⟨h, decide_eq_true (dl_app u c)⟩, lastC_app u c⟩
theorem behL_nd {W : List Str} (nd : W.Nodup) (hW : ∀ w ∈ W, 0 < w.length) (u : Str) : (behL W u).Nodup := by
  unfold behL
  rw [List.Nodup, List.pairwise_map]
  refine (nd.filter _).imp_of_mem fun {x y} hx hy n e => ?_
  obtain ⟨h1, h2⟩ := List.mem_filter.mp hx
  obtain ⟨k1, k2⟩ := List.mem_filter.mp hy
  obtain ⟨c, _, e1⟩ := split_last (hW x h1)
  obtain ⟨d, _, e2⟩ := split_last (hW y k1)
  rw [of_decide_eq_true h2] at e1
  rw [of_decide_eq_true k2] at e2
  rw [e1, e2, lastC_app, lastC_app] at e
  exact n (by rw [e1, e2, e])
/-- the words that are made of a word and letters -/
def mkW (w : Str) (cs : List Nat) : List Str := cs.map fun c => w ++ sg c
def absF (al : Str) (W : List Str) : List Str := (((TL.tl al).filter fun c => !decide (sg c ∈ W)).map sg) ++ W.flatMap fun w => (mkW w (behL W (rst w))).filter fun z => !decide (z ∈ W)
theorem absF_is {O W : List Str} {al : Str} (hal : (TL.tl al).Nodup) (nd : W.Nodup) (hW : ∀ w, w ∈ W ↔ w ∈ O ∧ okA al w) (pos : ∀ z ∈ O, 0 < z.length) : (absF al W).Nodup ∧ ∀ z, z ∈ absF al W ↔ MinA O al z := by
  have posW : ∀ w ∈ W, 0 < w.length := fun w h => pos w ((hW w).mp h).1
  have long : ∀ w ∈ W, ∀ z ∈ (mkW w (behL W (rst w))).filter fun z => !decide (z ∈ W), 2 ≤ z.length ∧ ∃ c, z = w ++ sg c := fun w hw z hz => by
    obtain ⟨h1, _⟩ := List.mem_filter.mp hz
    obtain ⟨c, _, rfl⟩ := List.mem_map.mp h1
    have := posW w hw
    exact ⟨by rw [sg_len]; omega, c, rfl⟩
  constructor
  · unfold absF
    rw [List.nodup_append]
    refine ⟨?_, ?_, fun x hx y hy e => ?_⟩
    · rw [List.Nodup, List.pairwise_map]
      exact (hal.filter _).imp fun n e => n (by have := congrArg TL.tl e; rw [sg_tl, sg_tl] at this; cases this; rfl)
    · rw [List.Nodup, List.pairwise_flatMap]
      refine ⟨fun w hw => ?_, nd.imp_of_mem fun {w v} hw hv n x hx y hy e => ?_⟩
      · refine List.Pairwise.filter _ ?_
        unfold mkW
        rw [List.pairwise_map]
        exact (behL_nd nd posW _).imp fun n e => n (app_sg_inj e).2
      · obtain ⟨_, c, rfl⟩ := long w hw x hx
        obtain ⟨_, d, rfl⟩ := long v hv y hy
        exact n (app_sg_inj e).1
    · obtain ⟨c, _, rfl⟩ := List.mem_map.mp hx
      obtain ⟨w, hw, hy⟩ := List.mem_flatMap.mp hy
      have h2 := (long w hw y hy).1
      rw [← e] at h2
      exact absurd h2 (by show ¬ 2 ≤ 1; omega)
  · intro z
    unfold absF
    rw [List.mem_append, List.mem_map, List.mem_flatMap]
    constructor
    · rintro (⟨c, hc, rfl⟩ | ⟨w, hw, hz⟩)
      · obtain ⟨h1, h2⟩ := List.mem_filter.mp hc
        have h2 : sg c ∉ W := fun m => by rw [decide_eq_true m] at h2; cases h2
        have ok := okA_sg.mpr h1
        exact ⟨ok, fun m => h2 ((hW _).mpr ⟨m, ok⟩), .inl rfl⟩
      · obtain ⟨h1, h2⟩ := List.mem_filter.mp hz
        have h2 : z ∉ W := fun m => by rw [decide_eq_true m] at h2; cases h2
        obtain ⟨c, hc, rfl⟩ := List.mem_map.mp h1
        have hx := (mem_behL posW).mp hc
        obtain ⟨x1, x2⟩ := (hW _).mp hx
        obtain ⟨w1, w2⟩ := (hW _).mp hw
        have pw := posW w hw
        have ok : okA al (w ++ sg c) := okA_app.mpr ⟨w2, (okA_app.mp x2).2⟩
        refine ⟨ok, fun m => h2 ((hW _).mpr ⟨m, ok⟩), .inr ⟨by rw [sg_len]; omega, by rw [dl_app]; exact w1, by rw [rst_app c pw]; exact x1⟩⟩
    · rintro ⟨ok, no, h⟩
      have noW : z ∉ W := fun m => no ((hW z).mp m).1
      rcases h with h1 | ⟨h2, hd, hr⟩
      · obtain ⟨c, hc, e⟩ := split_last (z := z) (by omega)
        have e0 : dl z = Str.empty := tl_inj (by
          refine List.eq_nil_of_length_eq_zero ?_
          show (dl z).length = 0
          rw [dl_len]
          omega)
        rw [e0, nil_sg] at e
        refine .inl ⟨c, List.mem_filter.mpr ⟨ok c hc, ?_⟩, e.symm⟩
        rw [← e, decide_eq_false noW]
        rfl
      · obtain ⟨c, hc, e⟩ := split_last (z := z) (by omega)
        refine .inr ⟨dl z, (hW _).mpr ⟨hd, okA_dl ok⟩, List.mem_filter.mpr ⟨List.mem_map.mpr ⟨c, (mem_behL posW).mpr ?_, e.symm⟩, by rw [decide_eq_false noW]; rfl⟩⟩
        have pd : 0 < (dl z).length := by rw [dl_len]; omega
        rw [← rst_app c pd, ← e]
        exact (hW _).mpr ⟨hr, okA_rst ok⟩
/-- gone through all words and all letters -/
def dueF (al : Str) (O Ws : List Str) : List Str := Ws.flatMap fun w => (mkW w (TL.tl al)).filter fun z => decide (okA al w ∧ z ∉ O ∧ (w = Str.empty ∨ rst z ∈ O))
theorem dueF_is {O Ws : List Str} {al : Str} (hal : (TL.tl al).Nodup) (nd : Ws.Nodup) (hW : ∀ w, w ∈ Ws ↔ w = Str.empty ∨ w ∈ O) (pos : ∀ z ∈ O, 0 < z.length) : (dueF al O Ws).Nodup ∧ ∀ z, z ∈ dueF al O Ws ↔ MinA O al z := by
  constructor
  · unfold dueF
    rw [List.Nodup, List.pairwise_flatMap]
    refine ⟨fun w hw => ?_, nd.imp_of_mem fun {w v} hw hv n x hx y hy e => ?_⟩
    · refine List.Pairwise.filter _ ?_
      unfold mkW
      rw [List.pairwise_map]
      exact hal.imp fun n e => n (app_sg_inj e).2
    · obtain ⟨c, _, rfl⟩ := List.mem_map.mp (List.mem_filter.mp hx).1
      obtain ⟨d, _, rfl⟩ := List.mem_map.mp (List.mem_filter.mp hy).1
      exact n (app_sg_inj e).1
  · intro z
    unfold dueF
    rw [List.mem_flatMap]
    constructor
    · rintro ⟨w, hw, hz⟩
      obtain ⟨h1, h2⟩ := List.mem_filter.mp hz
      obtain ⟨c, hc, rfl⟩ := List.mem_map.mp h1
      obtain ⟨o1, o2, o3⟩ := of_decide_eq_true h2
      have ok : okA al (w ++ sg c) := okA_app.mpr ⟨o1, okA_sg.mpr hc⟩
      refine ⟨ok, o2, ?_⟩
      rcases (hW w).mp hw with e | m
      · exact .inl (by rw [e, sg_len]; rfl)
      · have pw := pos w m
        refine .inr ⟨by rw [sg_len]; omega, by rw [dl_app]; exact m, ?_⟩
        rcases o3 with e | o3
        · rw [e] at pw
          exact absurd pw (by decide)
        · exact o3
    · rintro ⟨ok, no, h⟩
      obtain ⟨c, hc, e⟩ := split_last (z := z) (by omega)
      have ok2 : okA al (dl z) := okA_dl ok
      refine ⟨dl z, (hW _).mpr ?_, List.mem_filter.mpr ⟨List.mem_map.mpr ⟨c, ok c hc, e.symm⟩, decide_eq_true ⟨ok2, no, ?_⟩⟩⟩
      · rcases h with h1 | ⟨h2, hd, hr⟩
        · refine .inl (tl_inj (List.eq_nil_of_length_eq_zero ?_))
          show (dl z).length = 0
          rw [dl_len]
          omega
        · exact .inr hd
      · rcases h with h1 | ⟨h2, hd, hr⟩
        · refine .inl (tl_inj (List.eq_nil_of_length_eq_zero ?_))
          show (dl z).length = 0
          rw [dl_len]
          omega
        · exact .inr hr
theorem sortZ (enc : Str → PyData) (F : List Str) : ((F.map fun z => (V.str z, z)).mergeSort (PySem.W.dataLe false fun z => enc z.2)).map (·.1) = (F.mergeSort (PySem.W.dataLe false enc)).map V.str := by
  rw [← List.map_mergeSort (l := F) (f := fun z : Str => (V.str z, z)) (r := PySem.W.dataLe false enc) (s := PySem.W.dataLe false fun z : V × Str => enc z.2) (fun a _ b _ => rfl), List.map_map]
  rfl
theorem sorted2 {F : List Str} (nd : F.Nodup) : StrL F ((F.mergeSort (PySem.W.dataLe false PyData.str)).mergeSort fun x y => decide (x.length ≤ y.length)) := by
  have pm := List.mergeSort_perm F (PySem.W.dataLe false PyData.str)
  exact (lenSort (pm.nodup_iff.mpr nd) (str_sort F)).cong fun z => pm.mem_iff
theorem sorted1 {F : List Str} (nd : F.Nodup) : StrL F (F.mergeSort (PySem.W.dataLe false eLen)) := by
  have pm := List.mergeSort_perm F (PySem.W.dataLe false eLen)
  exact ⟨pm.nodup_iff.mpr nd, eLen_sort F, fun z => pm.mem_iff⟩
theorem flat_len {α β : Type} {f : α → List β} {m : Nat} : ∀ {l : List α}, (∀ x ∈ l, (f x).length ≤ m) → (l.flatMap f).length ≤ l.length * m
  | [], _ => by simp
  | x :: r, h => by
    have ih := flat_len (f := f) fun y hy => h y (List.mem_cons_of_mem _ hy)
    have h1 := h x (List.mem_cons_self ..)
    have : (x :: r).flatMap f = f x ++ r.flatMap f := rfl
    rw [this, List.length_append, List.length_cons, Nat.succ_mul]
    omega
theorem behL_len (W : List Str) (u : Str) : (behL W u).length ≤ W.length := by
  unfold behL
  rw [List.length_map]
  exact List.length_filter_le _ _
/-- a table of just these words -/
def Kn (kvs : List (Key × V)) (W : List Str) : Prop := ∀ z : Str, valV kvs (.inr z) = if z ∈ W then some (.bl true) else none
theorem Kn.nil : Kn [] [] := fun z => rfl
theorem Kn.put {kvs : List (Key × V)} {W : List Str} (h : Kn kvs W) (z : Str) : Kn (putK kvs (.inr z) (.bl true)) (W ++ [z]) := fun y => by
  rw [valV_put, h y]
  by_cases c : y = z
  · subst c
    rw [if_pos rfl, if_pos (List.mem_append_right _ (List.mem_singleton.mpr rfl))]
  · have c2 : ¬ (Sum.inr y : Key) = .inr z := fun e => c (Sum.inr.inj e)
    rw [if_neg c2]
    by_cases d : y ∈ W
    · rw [if_pos d, if_pos (List.mem_append_left _ d)]
    · rw [if_neg d, if_neg fun m => (List.mem_append.mp m).elim d fun m => c (List.mem_singleton.mp m)]
/-- what a list of found words and letters looks up -/
theorem vd_get {H0 H : Hp} {D : Addr} {T : VT} {W : List Str} (h : Vd H0 H D T) (o : VdOf T (W.map fun x => (dl x, V.str (sg (lastC x))))) (u : Str) :
    (∃ r : Addr, valV (vkvs T) (.inr u) = some (.ref r) ∧ H r = some (.lst ((behL W u).map fun c => V.str (sg c)))) ∨ (valV (vkvs T) (.inr u) = none ∧ behL W u = []) := by
  by_cases c : u ∈ T.map (·.1)
  · obtain ⟨e, he, rfl⟩ := List.mem_map.mp c
    refine .inl ⟨e.2.1, h.val_of he, ?_⟩
    rw [(h.row e he).1, o.val e he]
    unfold behL
    rw [List.filter_map, List.map_map, List.map_map]
    rfl
  · refine .inr ⟨vkvs_none c, ?_⟩
    unfold behL
    rw [List.filter_eq_nil_iff.mpr fun x hx hd => ?_]
    · rfl
    · refine c ((o.mem u).mpr ?_)
      rw [List.map_map, ← of_decide_eq_true hd]
      exact List.mem_map_of_mem (f := (fun o : Str × V => o.1) ∘ fun x => (dl x, V.str (sg (lastC x)))) hx
structure AbsL (O : List Str) (al : Str) (l : List Str) : Prop where
  nd : l.Nodup
  pw : l.Pairwise leL
  mem : ∀ z, z ∈ l ↔ MinA O al z
theorem AbsL.uniq {O l m : List Str} {al bl : Str} (h : AbsL O al l) (k : AbsL O bl m) (e : ∀ c, c ∈ TL.tl al ↔ c ∈ TL.tl bl) : l = m :=
  ((List.perm_ext_iff_of_nodup h.nd k.nd).mpr fun z => (h.mem z).trans ((MinA.rev e).trans (k.mem z).symm)).eq_of_pairwise (fun a b _ _ => leL_anti) h.pw k.pw
theorem StrL.absL {F O l : List Str} {al : Str} (h : StrL F l) (e : ∀ z, z ∈ F ↔ MinA O al z) : AbsL O al l := ⟨h.nd, h.pw, fun z => (h.mem z).trans (e z)⟩
/-! ### lists of texts as data -/
def dTx (l : List Str) : PyData := .list (l.map .str)
theorem dp_txs {K : PySem.W.Frag} {H : Hp} : ∀ (l : List Str), DpAll K H (l.map V.str) (l.map PyData.str)
  | [] => .nil
  | _ :: r => .cons (.str _) (dp_txs r)
theorem dp_tx {K : PySem.W.Frag} {H : Hp} {a : Addr} {l : List Str} (h : SqL K H a (l.map V.str)) : Dp K H (.ref a) (dTx l) := .lst h (dp_txs l)
theorem okd_Tx {l : List Str} (h : ∀ z ∈ l, IsLet z) : Okd (dTx l) := by
  refine ⟨?_, ?_⟩
  · show PyData.canLayAll0 (l.map PyData.str) = true
    refine lay_all fun d hd => ?_
    obtain ⟨z, hz, rfl⟩ := List.mem_map.mp hd
    exact let_ok (h z hz)
  · have : ∀ l : List Str, PyData.depthAll (l.map PyData.str) = 0 := by
      intro l
      induction l with
      | nil => rfl
      | cons a r ih => rw [List.map_cons]; show max 0 (PyData.depthAll (r.map PyData.str)) = 0; rw [ih]; rfl
    show PyData.depthAll (l.map PyData.str) + 1 ≤ 60
    rw [this]
    decide
theorem eqv_nilTx (l : List Str) : PyData.eqv (dTx l) (dTx []) = decide (l = []) := by
  cases l with
  | nil => rfl
  | cons a r => rfl
theorem let_of {al z : Str} (hal : IsLet al) (h : okA al z) : IsLet z := List.all_eq_true.mpr fun c hc => List.all_eq_true.mp hal c (h c hc)
end SH
/-! Words, stretches, and the words that no letter must stand ahead of: the longest words of the classes. -/
namespace Sam
abbrev Wd := List Nat
def Inner (D : List Wd) (u : Wd) : Prop := ∃ t ∈ D, ∃ x y, t = x ++ u ++ y
def Pre (D : List Wd) (u : Wd) : Prop := ∃ t ∈ D, ∃ y, t = u ++ y
/-- left-closed: a beginning of a text, or with two letters ahead -/
def LC (D : List Wd) (u : Wd) : Prop := Pre D u ∨ ∃ a b, a ≠ b ∧ Inner D (a :: u) ∧ Inner D (b :: u)
theorem Pre.inner {D : List Wd} {u : Wd} : Pre D u → Inner D u := fun ⟨t, m, y, e⟩ => ⟨t, m, [], y, by rw [e]; rfl⟩
theorem Inner.suf {D : List Wd} {u v : Wd} (h : Inner D v) (s : u <:+ v) : Inner D u := by
  obtain ⟨t, m, x, y, e⟩ := h
  obtain ⟨z, rfl⟩ := s
  exact ⟨t, m, x ++ z, y, by rw [e]; simp⟩
theorem Inner.left {D : List Wd} {u v : Wd} (h : Inner D (u ++ v)) : Inner D u := by
  obtain ⟨t, m, x, y, e⟩ := h
  exact ⟨t, m, x, v ++ y, by rw [e]; simp⟩
theorem LC.inner {D : List Wd} {u : Wd} (h : LC D u) : Inner D u := by
  rcases h with h | ⟨a, b, _, h, _⟩
  · exact h.inner
  · exact h.suf ⟨[a], rfl⟩
theorem LC.left {D : List Wd} {u v : Wd} (h : LC D (u ++ v)) : LC D u := by
  rcases h with ⟨t, m, y, e⟩ | ⟨a, b, n, h1, h2⟩
  · exact .inl ⟨t, m, v ++ y, by rw [e]; simp⟩
  · exact .inr ⟨a, b, n, Inner.left (u := a :: u) (v := v) h1, Inner.left (u := b :: u) (v := v) h2⟩
/-- v is the longest word of u's class, told by the longest words alone -/
def Ext (L : Wd → Prop) (u v : Wd) : Prop := L v ∧ u <:+ v ∧ ∀ w, L w → u <:+ w → w <:+ v → w = v
def Link (L : Wd → Prop) (v w : Wd) : Prop := L w ∧ w <:+ v ∧ w ≠ v ∧ ∀ x, L x → x <:+ v → x ≠ v → x <:+ w
theorem Ext.self {L : Wd → Prop} {u : Wd} (h : L u) : Ext L u u := ⟨h, List.suffix_refl _, fun _ _ h1 h2 => h2.eq_of_length (Nat.le_antisymm h2.length_le h1.length_le)⟩
theorem Ext.of_mem {L : Wd → Prop} {u v : Wd} (h : Ext L u v) (l : L u) : v = u := (h.2.2 u l (List.suffix_refl _) h.2.1).symm
theorem Ext.up {L : Wd → Prop} {u u' v : Wd} (h : Ext L u v) (s : u <:+ u') (t : u' <:+ v) : Ext L u' v := ⟨h.1, t, fun w l h1 h2 => h.2.2 w l (s.trans h1) h2⟩
theorem suf_of {a b c : Wd} (h1 : a <:+ c) (h2 : b <:+ c) (h : a.length ≤ b.length) : a <:+ b := List.suffix_of_suffix_length_le h1 h2 h
theorem suf_tot {a b c : Wd} (h1 : a <:+ c) (h2 : b <:+ c) : a <:+ b ∨ b <:+ a := (Nat.le_total a.length b.length).imp (suf_of h1 h2) (suf_of h2 h1)
theorem suf_cons {u v : Wd} (h : u <:+ v) (n : u ≠ v) : ∃ a, (a :: u) <:+ v := by
  obtain ⟨x, rfl⟩ := h
  have : x ≠ [] := fun z => n (by rw [z]; rfl)
  refine ⟨x.getLast this, x.dropLast, ?_⟩
  have e := List.dropLast_concat_getLast this
  calc x.dropLast ++ x.getLast this :: u = (x.dropLast ++ [x.getLast this]) ++ u := by simp
    _ = x ++ u := by rw [e]
theorem suf_antisymm {u v : Wd} (h1 : u <:+ v) (h2 : v <:+ u) : u = v := h1.eq_of_length (Nat.le_antisymm h1.length_le h2.length_le)
theorem cons_suf_inj {a b : Nat} {u v : Wd} (h1 : (a :: u) <:+ v) (h2 : (b :: u) <:+ v) : a = b := by
  have := suf_of h1 h2 (by simp)
  have := this.eq_of_length (by simp)
  injection this
/-- a step to the left -/
theorem ext_left {D : List Wd} {u v : Wd} (h : Ext (LC D) u v) (n : u ≠ v) : ¬ LC D u ∧ ∃ a, Ext (LC D) (a :: u) v := by
  refine ⟨fun l => n (h.of_mem l).symm, ?_⟩
  obtain ⟨a, ha⟩ := suf_cons h.2.1 n
  exact ⟨a, h.up ⟨[a], rfl⟩ ha⟩
theorem ext_uniq {D : List Wd} {v v' : Wd} : ∀ (n : Nat) {u : Wd}, v.length - u.length ≤ n → Ext (LC D) u v → Ext (LC D) u v' → v = v'
  | n, u, hn, h, h' => by
    by_cases l : LC D u
    · rw [h.of_mem l, h'.of_mem l]
    · have n1 : u ≠ v := fun e => l (by rw [e]; exact h.1)
      have n2 : u ≠ v' := fun e => l (by rw [e]; exact h'.1)
      obtain ⟨_, a, ha⟩ := ext_left h n1
      obtain ⟨_, b, hb⟩ := ext_left h' n2
      have e : a = b := Classical.byContradiction fun z => l (.inr ⟨a, b, z, ha.1.inner.suf ha.2.1, hb.1.inner.suf hb.2.1⟩)
      subst e
      have hl := ha.2.1.length_le
      rw [List.length_cons] at hl
      match n, hn with
      | 0, hn => omega
      | n + 1, hn => exact ext_uniq n (by rw [List.length_cons]; omega) ha hb
theorem Ext.uniq {D : List Wd} {u v v' : Wd} (h : Ext (LC D) u v) (h' : Ext (LC D) u v') : v = v' := ext_uniq _ (Nat.le_refl _) h h'
theorem maxlen (D : List Wd) : ∃ m, ∀ u, Inner D u → u.length ≤ m := by
  have key : ∀ (D : List Wd) (t : Wd), t ∈ D → t.length ≤ (D.map List.length).sum := by
    intro D
    induction D with
    | nil => intro t m; cases m
    | cons d r ih =>
      intro t m
      rw [List.map_cons, List.sum_cons]
      rcases List.mem_cons.mp m with e | m
      · rw [e]; omega
      · have := ih t m; omega
  refine ⟨(D.map List.length).sum, fun u ⟨t, m, x, y, e⟩ => ?_⟩
  have h1 : u.length ≤ t.length := by rw [e]; simp; omega
  have h2 := key D t m
  omega
theorem ext_ex {D : List Wd} {m : Nat} (hm : ∀ u, Inner D u → u.length ≤ m) : ∀ (n : Nat) {u : Wd}, m - u.length ≤ n → Inner D u → ∃ v, Ext (LC D) u v
  | n, u, hn, h => by
    by_cases l : LC D u
    · exact ⟨u, .self l⟩
    · obtain ⟨t, mt, x, y, e⟩ := h
      have nx : x ≠ [] := fun z => l (.inl ⟨t, mt, y, by rw [e, z]; rfl⟩)
      have ex := List.dropLast_concat_getLast nx
      have h2 : Inner D (x.getLast nx :: u) := ⟨t, mt, x.dropLast, y, by rw [e]; (conv => lhs; rw [← ex]); simp⟩
      have hl := hm _ h2
      rw [List.length_cons] at hl
      match n, hn with
      | 0, hn => omega
      | n + 1, hn =>
        obtain ⟨v, hv⟩ := ext_ex hm n (u := x.getLast nx :: u) (by rw [List.length_cons]; omega) h2
        refine ⟨v, hv.1, List.IsSuffix.trans ⟨[x.getLast nx], rfl⟩ hv.2.1, fun w lw h1 h3 => ?_⟩
        by_cases e2 : u = w
        · exact absurd (e2 ▸ lw) l
        · obtain ⟨b, hb⟩ := suf_cons h1 e2
          have : b = x.getLast nx := cons_suf_inj (hb.trans h3) hv.2.1
          subst this
          exact hv.2.2 w lw hb h3
theorem Inner.ext {D : List Wd} {u : Wd} (h : Inner D u) : ∃ v, Ext (LC D) u v := by
  obtain ⟨m, hm⟩ := maxlen D
  exact ext_ex hm _ (Nat.le_refl _) h
theorem Ext.inner {D : List Wd} {u v : Wd} (h : Ext (LC D) u v) : Inner D u := h.1.inner.suf h.2.1
/-- where u stands, v stands -/
theorem ext_occ {D : List Wd} {v : Wd} : ∀ (n : Nat) {u : Wd}, v.length - u.length ≤ n → Ext (LC D) u v → ∀ {t x y : Wd}, t ∈ D → t = x ++ u ++ y → ∃ x', t = x' ++ v ++ y
  | n, u, hn, h, t, x, y, mt, e => by
    by_cases n1 : u = v
    · exact ⟨x, by rw [← n1]; exact e⟩
    · obtain ⟨nl, a, ha⟩ := ext_left h n1
      have nx : x ≠ [] := fun z => nl (.inl ⟨t, mt, y, by rw [e, z]; rfl⟩)
      have ex := List.dropLast_concat_getLast nx
      have e2 : t = x.dropLast ++ (x.getLast nx :: u) ++ y := by rw [e]; (conv => lhs; rw [← ex]); simp
      have h2 : Inner D (x.getLast nx :: u) := ⟨t, mt, x.dropLast, y, e2⟩
      have ea : a = x.getLast nx := Classical.byContradiction fun z => nl (.inr ⟨a, _, z, ha.inner, h2⟩)
      rw [← ea] at e2
      have hl := ha.2.1.length_le
      rw [List.length_cons] at hl
      match n, hn with
      | 0, hn => omega
      | n + 1, hn => exact ext_occ n (by rw [List.length_cons]; omega) ha mt e2
theorem Ext.occ {D : List Wd} {u v t x y : Wd} (h : Ext (LC D) u v) (mt : t ∈ D) (e : t = x ++ u ++ y) : ∃ x', t = x' ++ v ++ y := ext_occ _ (Nat.le_refl _) h mt e
theorem Ext.inner_app {D : List Wd} {u v y : Wd} (h : Ext (LC D) u v) : Inner D (u ++ y) ↔ Inner D (v ++ y) := by
  constructor
  · rintro ⟨t, m, x, z, e⟩
    obtain ⟨x', e'⟩ := h.occ (x := x) (y := y ++ z) m (by rw [e]; simp)
    exact ⟨t, m, x', z, by rw [e']; simp⟩
  · intro i
    obtain ⟨s, rfl⟩ := h.2.1
    exact i.suf ⟨s, by simp⟩
theorem suf_app {u v y : Wd} (h : u <:+ v) : (u ++ y) <:+ (v ++ y) := by
  obtain ⟨s, rfl⟩ := h
  exact ⟨s, by simp⟩
theorem suf_snoc {u v : Wd} {c d : Nat} (h : (u ++ [c]) <:+ (v ++ [d])) : c = d ∧ u <:+ v := by
  obtain ⟨s, e⟩ := h
  rw [← List.append_assoc] at e
  have := List.append_inj' e rfl
  exact ⟨by simpa using this.2, ⟨s, this.1⟩⟩
/-- longer words of one class lead to one class -/
theorem ext_app {D : List Wd} {u v z : Wd} {d : Nat} (h : Ext (LC D) u v) : Ext (LC D) (u ++ [d]) z ↔ Ext (LC D) (v ++ [d]) z := by
  constructor
  · intro hz
    have i : Inner D (v ++ [d]) := h.inner_app.mp hz.inner
    obtain ⟨z', hz'⟩ := i.ext
    have : Ext (LC D) (u ++ [d]) z' := by
      refine ⟨hz'.1, (suf_app h.2.1).trans hz'.2.1, fun w lw h1 h2 => ?_⟩
      rcases suf_tot hz'.2.1 h2 with s | s
      · exact hz'.2.2 w lw s h2
      · -- w is within v d
        obtain ⟨w', rfl⟩ : ∃ w', w = w' ++ [d] := by
          obtain ⟨s', e'⟩ := h1
          exact ⟨s' ++ u, by rw [← e']; simp⟩
        have lw' := lw.left
        have := h.2.2 w' lw' (suf_snoc h1).2 (suf_snoc s).2
        subst this
        exact hz'.2.2 _ lw (List.suffix_refl _) h2
    exact hz.uniq this ▸ hz'
  · intro hz
    refine ⟨hz.1, (suf_app h.2.1).trans hz.2.1, fun w lw h1 h2 => ?_⟩
    rcases suf_tot hz.2.1 h2 with s | s
    · exact hz.2.2 w lw s h2
    · obtain ⟨w', rfl⟩ : ∃ w', w = w' ++ [d] := by
        obtain ⟨s', e'⟩ := h1
        exact ⟨s' ++ u, by rw [← e']; simp⟩
      have := h.2.2 w' lw.left (suf_snoc h1).2 (suf_snoc s).2
      subst this
      exact hz.2.2 _ lw (List.suffix_refl _) h2
end Sam
set_option linter.all false
/-! A word more among the longest ones: what becomes of the classes. -/
namespace Sam
theorem Link.uniq {L : Wd → Prop} {v w w' : Wd} (h : Link L v w) (h' : Link L v w') : w = w' :=
  suf_antisymm (h'.2.2.2 w h.1 h.2.1 h.2.2.1) (h.2.2.2 w' h'.1 h'.2.1 h'.2.2.1)
theorem link_ex {L : Wd → Prop} (h0 : L []) : ∀ v : Wd, v ≠ [] → ∃ w, Link L v w
  | [], n => absurd rfl n
  | a :: u, _ => by
    have su : u <:+ (a :: u) := ⟨[a], rfl⟩
    have nu : u ≠ a :: u := fun e => by have := congrArg List.length e; simp at this
    have cut : ∀ x : Wd, x <:+ (a :: u) → x ≠ a :: u → x <:+ u := fun x h n => by
      rcases List.suffix_cons_iff.mp h with e | s
      · exact absurd e n
      · exact s
    by_cases l : L u
    · exact ⟨u, l, su, nu, fun x _ h n => cut x h n⟩
    · have n : u ≠ [] := fun e => l (e ▸ h0)
      obtain ⟨w, h1, h2, h3, h4⟩ := link_ex h0 u n
      refine ⟨w, h1, h2.trans su, fun e => ?_, fun x lx h n => h4 x lx (cut x h n) fun e => l (e ▸ lx)⟩
      have := h2.length_le
      rw [e, List.length_cons] at this
      omega
/-! a word m within v's class becomes a longest one -/
section
variable {D : List Wd} {L' : Wd → Prop} {m v : Wd} (hm : Ext (LC D) m v) (nm : ¬ LC D m) (hL : ∀ w, L' w ↔ LC D w ∨ w = m)
include hm nm hL
theorem split_ne : v ≠ m := fun e => nm (e ▸ hm.1)
theorem split_cut {x : Wd} (lx : LC D x) (s : x <:+ v) (n : x ≠ v) : x <:+ m ∧ x ≠ m := by
  refine ⟨?_, fun e => nm (e ▸ lx)⟩
  rcases suf_tot s hm.2.1 with h | h
  · exact h
  · exact absurd (hm.2.2 x lx h s) n
theorem split_ext_new {u : Wd} : Ext L' u m ↔ u <:+ m ∧ Ext (LC D) u v := by
  constructor
  · rintro ⟨_, s, h⟩
    refine ⟨s, hm.1, s.trans hm.2.1, fun w lw h1 h2 => Classical.byContradiction fun n => ?_⟩
    obtain ⟨c1, c2⟩ := split_cut hm nm hL lw h2 n
    exact c2 (h w ((hL w).mpr (.inl lw)) h1 c1)
  · rintro ⟨s, h⟩
    refine ⟨(hL m).mpr (.inr rfl), s, fun w lw h1 h2 => ?_⟩
    rcases (hL w).mp lw with l | e
    · have e := h.2.2 w l h1 (h2.trans hm.2.1)
      have := h2.length_le
      exact absurd (suf_antisymm h2 (e ▸ hm.2.1)) fun e2 => nm (e2 ▸ l)
    · exact e
theorem split_ext_old {u z : Wd} (nz : z ≠ m) : Ext L' u z ↔ Ext (LC D) u z ∧ ¬ (u <:+ m ∧ z = v) := by
  constructor
  · rintro ⟨l, s, h⟩
    have lz : LC D z := ((hL z).mp l).resolve_right nz
    refine ⟨⟨lz, s, fun w lw => h w ((hL w).mpr (.inl lw))⟩, ?_⟩
    rintro ⟨s2, e⟩
    exact nz (h m ((hL m).mpr (.inr rfl)) s2 (e ▸ hm.2.1)).symm
  · rintro ⟨h, n⟩
    refine ⟨(hL z).mpr (.inl h.1), h.2.1, fun w lw h1 h2 => ?_⟩
    rcases (hL w).mp lw with l | e
    · exact h.2.2 w l h1 h2
    · rw [e] at h1 h2
      exact absurd ⟨h1, (h.up h1 h2).uniq hm⟩ n
theorem split_link_new {w : Wd} : Link L' m w ↔ Link (LC D) v w := by
  constructor
  · rintro ⟨l, s, n, h⟩
    have lw := ((hL w).mp l).resolve_right n
    refine ⟨lw, s.trans hm.2.1, fun e => ?_, fun x lx h1 h2 => ?_⟩
    · exact nm (suf_antisymm s (e ▸ hm.2.1) ▸ lw)
    · obtain ⟨c1, c2⟩ := split_cut hm nm hL lx h1 h2
      exact h x ((hL x).mpr (.inl lx)) c1 c2
  · rintro ⟨l, s, n, h⟩
    obtain ⟨c1, c2⟩ := split_cut hm nm hL l s n
    refine ⟨(hL w).mpr (.inl l), c1, c2, fun x lx h1 h2 => ?_⟩
    have l2 := ((hL x).mp lx).resolve_right h2
    exact h x l2 (h1.trans hm.2.1) fun e => nm (suf_antisymm h1 (e ▸ hm.2.1) ▸ l2)
theorem split_link_v {w : Wd} : Link L' v w ↔ w = m := by
  have key : Link L' v m := by
    refine ⟨(hL m).mpr (.inr rfl), hm.2.1, fun e => nm (e ▸ hm.1), fun x lx h1 h2 => ?_⟩
    rcases (hL x).mp lx with l | e
    · exact (split_cut hm nm hL l h1 h2).1
    · exact e ▸ List.suffix_refl _
  exact ⟨fun h => h.uniq key, fun e => e ▸ key⟩
theorem split_link_old {z w : Wd} (lz : LC D z) (nz : z ≠ v) : Link L' z w ↔ Link (LC D) z w := by
  have nzm : z ≠ m := fun e => nm (e ▸ lz)
  constructor
  · rintro ⟨l, s, n, h⟩
    have lw : LC D w := by
      rcases (hL w).mp l with l | e
      · exact l
      · refine absurd ?_ nz
        rw [e] at s n h
        refine (Ext.uniq (u := m) ⟨lz, s, fun x lx h1 h2 => Classical.byContradiction fun n2 => ?_⟩ hm)
        have := h x ((hL x).mpr (.inl lx)) h2 n2
        exact nm (suf_antisymm this h1 ▸ lx)
    exact ⟨lw, s, n, fun x lx => h x ((hL x).mpr (.inl lx))⟩
  · rintro ⟨l, s, n, h⟩
    refine ⟨(hL w).mpr (.inl l), s, n, fun x lx h1 h2 => ?_⟩
    rcases (hL x).mp lx with l2 | e
    · exact h x l2 h1 h2
    · rw [e] at h1 ⊢
      rcases suf_tot h1 s with q | q
      · exact q
      · refine absurd ((Ext.uniq (u := m) ⟨lz, h1, fun x lx h3 h4 => Classical.byContradiction fun n2 => ?_⟩ hm)) nz
        have := h x lx h4 n2
        exact nm (suf_antisymm (this.trans q) h3 ▸ lx)
end
/-! a word f that stands nowhere else becomes one -/
section
variable {L L' : Wd → Prop} {f : Wd} (nf : ∀ w, L w → ¬ f <:+ w) (hL : ∀ w, L' w ↔ L w ∨ w = f)
include nf hL
theorem fresh_ext_new {u : Wd} : Ext L' u f ↔ u <:+ f ∧ ∀ w, L w → u <:+ w → ¬ w <:+ f := by
  constructor
  · rintro ⟨_, s, h⟩
    refine ⟨s, fun w lw h1 h2 => ?_⟩
    have := h w ((hL w).mpr (.inl lw)) h1 h2
    exact nf w lw (this ▸ List.suffix_refl _)
  · rintro ⟨s, h⟩
    refine ⟨(hL f).mpr (.inr rfl), s, fun w lw h1 h2 => ?_⟩
    rcases (hL w).mp lw with l | e
    · exact absurd h2 (h w l h1)
    · exact e
theorem fresh_ext_old {u z : Wd} (nz : z ≠ f) : Ext L' u z ↔ Ext L u z := by
  constructor
  · rintro ⟨l, s, h⟩
    exact ⟨((hL z).mp l).resolve_right nz, s, fun w lw => h w ((hL w).mpr (.inl lw))⟩
  · rintro ⟨l, s, h⟩
    refine ⟨(hL z).mpr (.inl l), s, fun w lw h1 h2 => ?_⟩
    rcases (hL w).mp lw with q | e
    · exact h w q h1 h2
    · exact absurd (e ▸ h2) (nf z l)
theorem fresh_link_old {z w : Wd} (lz : L z) : Link L' z w ↔ Link L z w := by
  constructor
  · rintro ⟨l, s, n, h⟩
    refine ⟨((hL w).mp l).resolve_right fun e => nf z lz (e ▸ s), s, n, fun x lx => h x ((hL x).mpr (.inl lx))⟩
  · rintro ⟨l, s, n, h⟩
    refine ⟨(hL w).mpr (.inl l), s, n, fun x lx h1 h2 => ?_⟩
    rcases (hL x).mp lx with q | e
    · exact h x q h1 h2
    · exact absurd (e ▸ h1) (nf z lz)
theorem fresh_link_new {w : Wd} : Link L' f w ↔ L w ∧ w <:+ f ∧ ∀ x, L x → x <:+ f → x <:+ w := by
  constructor
  · rintro ⟨l, s, n, h⟩
    refine ⟨((hL w).mp l).resolve_right n, s, fun x lx h1 => h x ((hL x).mpr (.inl lx)) h1 fun e => nf x lx (e ▸ List.suffix_refl _)⟩
  · rintro ⟨l, s, h⟩
    refine ⟨(hL w).mpr (.inl l), s, fun e => nf w l (e ▸ List.suffix_refl _), fun x lx h1 h2 => h x (((hL x).mp lx).resolve_right h2) h1⟩
end
/-! a text grows by a letter -/
structure Grow (D D' : List Wd) (p : Wd) (c : Nat) : Prop where
  inn : ∀ u, Inner D' u ↔ Inner D u ∨ u <:+ p ++ [c]
  pre : ∀ u, Pre D' u ↔ Pre D u ∨ u = p ++ [c]
  hp : Pre D p
theorem suf_snoc_cases {u p : Wd} {c : Nat} (h : u <:+ p ++ [c]) : u = [] ∨ ∃ u', u = u' ++ [c] ∧ u' <:+ p := by
  rcases List.eq_nil_or_concat u with e | ⟨u', d, e⟩
  · exact .inl e
  · right
    rw [e, List.concat_eq_append] at h
    obtain ⟨q, s⟩ := suf_snoc h
    exact ⟨u', by rw [e, q, List.concat_eq_append], s⟩
theorem grow_of (D0 : List Wd) (p : Wd) (c : Nat) : Grow (D0 ++ [p]) (D0 ++ [p ++ [c]]) p c := by
  refine ⟨fun u => ?_, fun u => ?_, ⟨p, by simp, [], by simp⟩⟩
  · constructor
    · rintro ⟨t, m, x, y, e⟩
      rcases List.mem_append.mp m with m | m
      · exact .inl ⟨t, List.mem_append_left _ m, x, y, e⟩
      · rw [List.mem_singleton.mp m] at e
        rcases List.eq_nil_or_concat y with e2 | ⟨y', d, e2⟩
        · right
          rw [e2, List.append_nil] at e
          exact ⟨x, e.symm⟩
        · left
          rw [e2, List.concat_eq_append, ← List.append_assoc] at e
          exact ⟨p, by simp, x, y', (List.append_inj' e rfl).1⟩
    · rintro (⟨t, m, x, y, e⟩ | ⟨x, e⟩)
      · rcases List.mem_append.mp m with m | m
        · exact ⟨t, List.mem_append_left _ m, x, y, e⟩
        · rw [List.mem_singleton.mp m] at e
          exact ⟨p ++ [c], by simp, x, y ++ [c], by rw [e]; simp⟩
      · exact ⟨p ++ [c], by simp, x, [], by rw [← e]; simp⟩
  · constructor
    · rintro ⟨t, m, y, e⟩
      rcases List.mem_append.mp m with m | m
      · exact .inl ⟨t, List.mem_append_left _ m, y, e⟩
      · rw [List.mem_singleton.mp m] at e
        rcases List.eq_nil_or_concat y with e2 | ⟨y', d, e2⟩
        · right
          rw [e2, List.append_nil] at e
          exact e.symm
        · left
          rw [e2, List.concat_eq_append, ← List.append_assoc] at e
          exact ⟨p, by simp, y', (List.append_inj' e rfl).1⟩
    · rintro (⟨t, m, y, e⟩ | e)
      · rcases List.mem_append.mp m with m | m
        · exact ⟨t, List.mem_append_left _ m, y, e⟩
        · rw [List.mem_singleton.mp m] at e
          exact ⟨p ++ [c], by simp, y ++ [c], by rw [e]; simp⟩
      · exact ⟨p ++ [c], by simp, [], by rw [e]; simp⟩
section
variable {D D' : List Wd} {p : Wd} {c : Nat} (G : Grow D D' p c)
include G
theorem Grow.nil : LC D [] := by
  obtain ⟨t, m, y, e⟩ := G.hp
  exact .inl ⟨t, m, p ++ y, by rw [e]; simp⟩
theorem Grow.lcp : LC D p := .inl G.hp
theorem Grow.mono {w : Wd} (h : LC D w) : LC D' w := by
  rcases h with h | ⟨a, b, n, h1, h2⟩
  · exact .inl ((G.pre w).mpr (.inl h))
  · exact .inr ⟨a, b, n, (G.inn _).mpr (.inl h1), (G.inn _).mpr (.inl h2)⟩
theorem Grow.lc_new : LC D' (p ++ [c]) := .inl ((G.pre _).mpr (.inr rfl))
/-- the word stands already -/
theorem Grow.lc_old (i : Inner D (p ++ [c])) (w : Wd) : LC D' w ↔ LC D w ∨ w = p ++ [c] := by
  have inn : ∀ u, Inner D' u → Inner D u := fun u h => ((G.inn u).mp h).elim id fun s => i.suf s
  constructor
  · rintro (h | ⟨a, b, n, h1, h2⟩)
    · exact ((G.pre w).mp h).imp .inl id
    · exact .inl (.inr ⟨a, b, n, inn _ h1, inn _ h2⟩)
  · rintro (h | e)
    · exact G.mono h
    · exact e ▸ G.lc_new
/-- a word at the end of p that the letter follows somewhere is within such a longest word -/
theorem Grow.up : ∀ (n : Nat) {u : Wd}, p.length - u.length ≤ n → u <:+ p → Inner D (u ++ [c]) → ∃ q, LC D q ∧ u <:+ q ∧ q <:+ p ∧ Inner D (q ++ [c])
  | n, u, hn, s, i => by
    by_cases l : LC D u
    · exact ⟨u, l, List.suffix_refl _, s, i⟩
    · have ne : u ≠ p := fun e => l (e ▸ G.lcp)
      obtain ⟨a, ha⟩ := suf_cons s ne
      obtain ⟨t, mt, x, y, e⟩ := i
      have nx : x ≠ [] := fun z => l (.inl ⟨t, mt, [c] ++ y, by rw [e, z]; simp⟩)
      have ex := List.dropLast_concat_getLast nx
      have i2 : Inner D ((x.getLast nx :: u) ++ [c]) := ⟨t, mt, x.dropLast, y, by rw [e]; (conv => lhs; rw [← ex]); simp⟩
      have ea : a = x.getLast nx := Classical.byContradiction fun z => l (.inr ⟨a, _, z, G.hp.inner.suf ha, i2.left⟩)
      rw [← ea] at i2
      have hl := ha.length_le
      rw [List.length_cons] at hl
      match n, hn with
      | 0, hn => omega
      | n + 1, hn =>
        obtain ⟨q, h1, h2, h3, h4⟩ := Grow.up n (u := a :: u) (by rw [List.length_cons]; omega) ha i2
        exact ⟨q, h1, List.IsSuffix.trans ⟨[a], rfl⟩ h2, h3, h4⟩
/-- no word at the end of p is followed by the letter -/
theorem Grow.lc_none (h : ∀ u, u <:+ p → ¬ Inner D (u ++ [c])) (w : Wd) : LC D' w ↔ LC D w ∨ w = p ++ [c] := by
  constructor
  · rintro (h1 | ⟨a, b, n, h1, h2⟩)
    · exact ((G.pre w).mp h1).imp .inl id
    · have one : ∀ a b, a ≠ b → a :: w <:+ p ++ [c] → Inner D (b :: w) → LC D w := fun a b n h1 h2 => by
        have : w <:+ p ++ [c] := List.IsSuffix.trans ⟨[a], rfl⟩ h1
        rcases suf_snoc_cases this with e | ⟨w', e, s⟩
        · exact e ▸ G.nil
        · exact absurd (h2.suf ⟨[b], rfl⟩) (e ▸ h w' s)
      rcases (G.inn _).mp h1 with i1 | s1
      · rcases (G.inn _).mp h2 with i2 | s2
        · exact .inl (.inr ⟨a, b, n, i1, i2⟩)
        · exact .inl (one b a (Ne.symm n) s2 i1)
      · rcases (G.inn _).mp h2 with i2 | s2
        · exact .inl (one a b n s1 i2)
        · exact absurd (cons_suf_inj s1 s2) n
  · rintro (h | e)
    · exact G.mono h
    · exact e ▸ G.lc_new
/-- q is the longest one that the letter follows -/
theorem Grow.lc_some {q : Wd} (np : ¬ Inner D (p ++ [c])) (sq : q <:+ p) (iq : Inner D (q ++ [c])) (mx : ∀ u, u <:+ p → Inner D (u ++ [c]) → u <:+ q) (w : Wd) :
    LC D' w ↔ (LC D w ∨ w = q ++ [c]) ∨ w = p ++ [c] := by
  have qp : q ≠ p := fun e => np (e ▸ iq)
  constructor
  · rintro (h1 | ⟨a, b, n, h1, h2⟩)
    · exact ((G.pre w).mp h1).imp (fun h => .inl (.inl h)) id
    · have one : ∀ a b, a ≠ b → a :: w <:+ p ++ [c] → Inner D (b :: w) → ¬ Inner D (a :: w) → LC D w ∨ w = q ++ [c] := fun a b n h1 h2 h3 => by
        have : w <:+ p ++ [c] := List.IsSuffix.trans ⟨[a], rfl⟩ h1
        rcases suf_snoc_cases this with e | ⟨w', e, s⟩
        · exact .inl (e ▸ G.nil)
        · right
          subst e
          have s2 := mx w' s (h2.suf ⟨[b], rfl⟩)
          have s3 : a :: w' <:+ p := (suf_snoc (u := a :: w') (v := p) h1).2
          by_cases e2 : w' = q
          · rw [e2]
          · obtain ⟨a', ha'⟩ := suf_cons s2 e2
            have := cons_suf_inj (ha'.trans sq) s3
            subst this
            exact absurd (iq.suf (suf_app (y := [c]) ha')) h3
      rcases (G.inn _).mp h1 with i1 | s1
      · rcases (G.inn _).mp h2 with i2 | s2
        · exact .inl (.inl (.inr ⟨a, b, n, i1, i2⟩))
        · by_cases i2 : Inner D (b :: w)
          · exact .inl (.inl (.inr ⟨a, b, n, i1, i2⟩))
          · exact .inl (one b a (Ne.symm n) s2 i1 i2)
      · rcases (G.inn _).mp h2 with i2 | s2
        · by_cases i1 : Inner D (a :: w)
          · exact .inl (.inl (.inr ⟨a, b, n, i1, i2⟩))
          · exact .inl (one a b n s1 i2 i1)
        · exact absurd (cons_suf_inj s1 s2) n
  · rintro ((h | e) | e)
    · exact G.mono h
    · subst e
      by_cases l : LC D (q ++ [c])
      · exact G.mono l
      · obtain ⟨a, ha⟩ := suf_cons sq qp
        obtain ⟨t, mt, x, y, e⟩ := iq
        have nx : x ≠ [] := fun z => l (.inl ⟨t, mt, y, by rw [e, z]; simp⟩)
        have ex := List.dropLast_concat_getLast nx
        have i2 : Inner D ((x.getLast nx :: q) ++ [c]) := ⟨t, mt, x.dropLast, y, by rw [e]; (conv => lhs; rw [← ex]); simp⟩
        refine .inr ⟨a, x.getLast nx, fun z => ?_, (G.inn _).mpr (.inr (suf_app (y := [c]) ha)), (G.inn _).mpr (.inl i2)⟩
        have := (mx (a :: q) ha (z ▸ i2)).length_le
        rw [List.length_cons] at this
        omega
    · exact e ▸ G.lc_new
end
end Sam
set_option linter.all false
/-! The machine grown letter by letter. -/
namespace Sam
/-- the classes so far: how many, their edges, sizes and links -/
structure G where
  n : Nat
  ed : Nat → Nat → Option Nat
  sz : Nat → Nat
  lk : Nat → Option Nat
def up1 {α : Type} (f : Nat → α) (i : Nat) (v : α) : Nat → α := fun x => if x = i then v else f x
theorem up1_same {α : Type} {f : Nat → α} {i : Nat} {v : α} : up1 f i v i = v := if_pos rfl
theorem up1_ne {α : Type} {f : Nat → α} {i j : Nat} {v : α} (h : j ≠ i) : up1 f i v j = f j := if_neg h
def chn (lk : Nat → Option Nat) : Nat → Nat → List Nat
  | 0, _ => []
  | k + 1, s => s :: match lk s with
    | none => []
    | some t => chn lk k t
/-- a class, its link, and so on -/
def chain (g : G) (s : Nat) : List Nat := chn g.lk (g.sz s + 1) s
def addG (g : G) (size : Nat) (ed : Nat → Option Nat) (link : Option Nat) : G := ⟨g.n + 1, up1 g.ed g.n ed, up1 g.sz g.n size, up1 g.lk g.n link⟩
def setLk (g : G) (i : Nat) (t : Option Nat) : G := ⟨g.n, g.ed, g.sz, up1 g.lk i t⟩
def setEd (g : G) (c t : Nat) (xs : List Nat) : G := ⟨g.n, fun x d => if d = c ∧ x ∈ xs then some t else g.ed x d, g.sz, g.lk⟩
def redOf (g : G) (s c old : Nat) : List Nat := (chain g s).takeWhile fun x => decide (g.ed x c = some old)
def preOf (g : G) (s c : Nat) : List Nat := (chain g s).takeWhile fun x => decide (g.ed x c = none)
def nextOf (g : G) (s c : Nat) : Option Nat := ((chain g s).dropWhile fun x => decide (g.ed x c = none)).head?
def ledTo (g : G) (s c : Nat) : G × Nat := match g.ed s c with
  | none => (g, 0)
  | some old => if g.sz old = g.sz s + 1 then (g, old) else (setEd (setLk (addG g (g.sz s + 1) (g.ed old) (g.lk old)) old (some g.n)) c g.n (redOf g s c old), g.n)
def after (g : G) (s c : Nat) : G × Nat := match g.ed s c with
  | some _ => ledTo g s c
  | none =>
    let g2 := setEd (addG g (g.sz s + 1) (fun _ => none) (some 0)) c g.n (preOf g s c)
    match nextOf g s c with
    | none => (g2, g.n)
    | some q => (setLk (ledTo g2 q c).1 g.n (some (ledTo g2 q c).2), g.n)
/-- what the classes stand for -/
structure Inv (L : Wd → Prop) (g : G) (rep : Nat → Wd) : Prop where
  n0 : 0 < g.n
  r0 : rep 0 = []
  inj : ∀ i j, i < g.n → j < g.n → rep i = rep j → i = j
  lc : ∀ w, L w ↔ ∃ i, i < g.n ∧ rep i = w
  sz : ∀ i, i < g.n → g.sz i = (rep i).length
  ed : ∀ i, i < g.n → ∀ c j, g.ed i c = some j ↔ j < g.n ∧ Ext L (rep i ++ [c]) (rep j)
  lk : ∀ i, i < g.n → ∀ j, g.lk i = some j ↔ j < g.n ∧ Link L (rep i) (rep j)
section
variable {L : Wd → Prop} {g : G} {rep : Nat → Wd} (I : Inv L g rep)
include I
theorem Inv.mem {i : Nat} (h : i < g.n) : L (rep i) := (I.lc _).mpr ⟨i, h, rfl⟩
theorem Inv.dec {i j : Nat} (h : i < g.n) (e : g.lk i = some j) : j < g.n ∧ g.sz j < g.sz i ∧ rep j <:+ rep i ∧ rep j ≠ rep i := by
  obtain ⟨hj, l⟩ := (I.lk i h j).mp e
  refine ⟨hj, ?_, l.2.1, l.2.2.1⟩
  rw [I.sz i h, I.sz j hj]
  exact Nat.lt_of_le_of_ne l.2.1.length_le fun e => l.2.2.1 (l.2.1.eq_of_length e)
theorem Inv.lk_none {i : Nat} (h : i < g.n) (e : g.lk i = none) : rep i = [] := by
  refine Classical.byContradiction fun n => ?_
  obtain ⟨w, hw⟩ := link_ex (L := L) (I.r0 ▸ I.mem I.n0) _ n
  obtain ⟨j, hj, ej⟩ := (I.lc w).mp hw.1
  have := (I.lk i h j).mpr ⟨hj, ej ▸ hw⟩
  rw [e] at this
  cases this
theorem Inv.chn_fuel : ∀ (k k' : Nat) {s : Nat}, s < g.n → g.sz s < k → g.sz s < k' → chn g.lk k s = chn g.lk k' s
  | 0, _, _, _, h, _ => absurd h (Nat.not_lt_zero _)
  | _, 0, _, _, _, h => absurd h (Nat.not_lt_zero _)
  | k + 1, k' + 1, s, hs, h1, h2 => by
    rw [chn, chn]
    cases e : g.lk s with
    | none => rfl
    | some t =>
      obtain ⟨ht, hz, _⟩ := I.dec hs e
      show s :: chn g.lk k t = s :: chn g.lk k' t
      rw [Inv.chn_fuel k k' ht (by omega) (by omega)]
theorem Inv.chain_eq {s : Nat} (h : s < g.n) : chain g s = s :: match g.lk s with
    | none => []
    | some t => chain g t := by
  unfold chain
  rw [chn]
  cases e : g.lk s with
  | none => rfl
  | some t =>
    obtain ⟨ht, hz, _⟩ := I.dec h e
    show s :: chn g.lk (g.sz s) t = s :: chn g.lk (g.sz t + 1) t
    rw [I.chn_fuel _ _ ht hz (Nat.lt_succ_self _)]
/-- the chain: all classes whose longest words stand at the end of s's, longest first -/
theorem Inv.chain_ok : ∀ (k : Nat) {s : Nat}, s < g.n → g.sz s ≤ k → (∀ j, j ∈ chain g s ↔ j < g.n ∧ rep j <:+ rep s) ∧ (chain g s).Pairwise (fun a b => rep b <:+ rep a ∧ rep b ≠ rep a)
  | k, s, hs, hk => by
    rw [I.chain_eq hs]
    cases e : g.lk s with
    | none =>
      have z := I.lk_none hs e
      refine ⟨fun j => ?_, by simp⟩
      rw [List.mem_singleton]
      constructor
      · rintro rfl
        exact ⟨hs, List.suffix_refl _⟩
      · rintro ⟨hj, s2⟩
        rw [z] at s2
        exact I.inj j s hj hs (by rw [List.suffix_nil.mp s2, z])
    | some t =>
      obtain ⟨ht, hz, h1, h2⟩ := I.dec hs e
      have link := ((I.lk s hs t).mp e).2
      match k, hk with
      | 0, hk => omega
      | k + 1, hk =>
        obtain ⟨c1, c2⟩ := Inv.chain_ok k ht (by omega)
        refine ⟨fun j => ?_, ?_⟩
        · show j ∈ s :: chain g t ↔ _
          rw [List.mem_cons, c1]
          constructor
          · rintro (rfl | ⟨hj, q⟩)
            · exact ⟨hs, List.suffix_refl _⟩
            · exact ⟨hj, q.trans h1⟩
          · rintro ⟨hj, q⟩
            by_cases e2 : rep j = rep s
            · exact .inl (I.inj j s hj hs e2)
            · exact .inr ⟨hj, link.2.2.2 _ (I.mem hj) q e2⟩
        · show (s :: chain g t).Pairwise _
          rw [List.pairwise_cons]
          refine ⟨fun j hj => ?_, c2⟩
          obtain ⟨hj2, q⟩ := (c1 j).mp hj
          refine ⟨q.trans h1, fun e2 => h2 (suf_antisymm h1 (e2 ▸ q))⟩
theorem Inv.mem_chain {s j : Nat} (h : s < g.n) : j ∈ chain g s ↔ j < g.n ∧ rep j <:+ rep s := (I.chain_ok _ h (Nat.le_refl _)).1 j
theorem Inv.chain_pw {s : Nat} (h : s < g.n) : (chain g s).Pairwise (fun a b => rep b <:+ rep a ∧ rep b ≠ rep a) := (I.chain_ok _ h (Nat.le_refl _)).2
end
theorem mem_tw {α : Type} {R : α → α → Prop} {p : α → Bool} : ∀ {l : List α}, l.Pairwise R → (∀ x y, R x y → p y = true → p x = true) → ∀ x, x ∈ l.takeWhile p ↔ x ∈ l ∧ p x = true
  | [], _, _, x => by simp
  | a :: l, h, m, x => by
    rw [List.pairwise_cons] at h
    by_cases c : p a = true
    · rw [List.takeWhile_cons_of_pos c, List.mem_cons, List.mem_cons, mem_tw h.2 m x]
      constructor
      · rintro (e | ⟨h1, h2⟩)
        · exact ⟨.inl e, e ▸ c⟩
        · exact ⟨.inr h1, h2⟩
      · rintro ⟨e | h1, h2⟩
        · exact .inl e
        · exact .inr ⟨h1, h2⟩
    · rw [List.takeWhile_cons_of_neg c]
      constructor
      · intro z; cases z
      · rintro ⟨h1, h2⟩
        rcases List.mem_cons.mp h1 with e | h3
        · exact absurd (e ▸ h2) c
        · exact absurd (m a x (h.1 x h3) h2) c
theorem dw_none {α : Type} {p : α → Bool} : ∀ {l : List α}, (l.dropWhile p).head? = none → ∀ x ∈ l, p x = true
  | [], _, x, h => by cases h
  | a :: l, h, x, hx => by
    by_cases c : p a = true
    · rw [List.dropWhile_cons_of_pos c] at h
      rcases List.mem_cons.mp hx with e | m
      · exact e ▸ c
      · exact dw_none h x m
    · rw [List.dropWhile_cons_of_neg c] at h
      cases h
theorem dw_some {α : Type} {R : α → α → Prop} {p : α → Bool} : ∀ {l : List α} {q : α}, l.Pairwise R → (l.dropWhile p).head? = some q → q ∈ l ∧ p q = false ∧ ∀ x ∈ l, p x = false → x = q ∨ R q x
  | [], _, _, h => by cases h
  | a :: l, q, hp, h => by
    rw [List.pairwise_cons] at hp
    by_cases c : p a = true
    · rw [List.dropWhile_cons_of_pos c] at h
      obtain ⟨h1, h2, h3⟩ := dw_some hp.2 h
      refine ⟨List.mem_cons_of_mem _ h1, h2, fun x hx hn => ?_⟩
      rcases List.mem_cons.mp hx with e | m
      · rw [e, c] at hn; cases hn
      · exact h3 x m hn
    · rw [List.dropWhile_cons_of_neg c] at h
      have e : a = q := by simpa using h
      subst e
      refine ⟨List.mem_cons_self .., by simpa using c, fun x hx _ => ?_⟩
      rcases List.mem_cons.mp hx with e | m
      · exact .inl e
      · exact .inr (hp.1 x m)
section
variable {D D' : List Wd} {p : Wd} {c : Nat} {g : G} {rep : Nat → Wd}
theorem Inv.ed_inner (I : Inv (LC D) g rep) {i d : Nat} (h : i < g.n) : (∃ j, g.ed i d = some j) ↔ Inner D (rep i ++ [d]) := by
  constructor
  · rintro ⟨j, e⟩
    exact ((I.ed i h d j).mp e).2.inner
  · intro i2
    obtain ⟨v, hv⟩ := i2.ext
    obtain ⟨j, hj, e⟩ := (I.lc v).mp hv.1
    exact ⟨j, (I.ed i h d j).mpr ⟨hj, e ▸ hv⟩⟩
theorem Inv.ed_none (I : Inv (LC D) g rep) {i d : Nat} (h : i < g.n) : g.ed i d = none ↔ ¬ Inner D (rep i ++ [d]) := by
  rw [← I.ed_inner h]
  cases e : g.ed i d with
  | none => simp
  | some j => simp
/-- the classes at the end of q's word that lead to old's -/
theorem Inv.red (I : Inv (LC D) g rep) {q old : Nat} (hq : q < g.n) (e : g.ed q c = some old) (x : Nat) : x ∈ redOf g q c old ↔ x < g.n ∧ rep x <:+ rep q ∧ g.ed x c = some old := by
  have eq := ((I.ed q hq c old).mp e).2
  have := mem_tw (p := fun x => decide (g.ed x c = some old)) (R := fun a b => (rep b <:+ rep a ∧ rep b ≠ rep a) ∧ a ∈ chain g q ∧ b ∈ chain g q) (l := chain g q) ?_ ?_ x
  · unfold redOf
    rw [this, I.mem_chain hq, decide_eq_true_eq, and_assoc]
  · exact (I.chain_pw hq).imp_of_mem fun ha hb h => ⟨h, ha, hb⟩
  · rintro a b ⟨⟨h1, _⟩, ha, hb⟩ hp
    obtain ⟨an, as⟩ := (I.mem_chain hq).mp ha
    obtain ⟨bn, bs⟩ := (I.mem_chain hq).mp hb
    have h2 := (I.ed b bn c old).mp (of_decide_eq_true hp)
    exact decide_eq_true ((I.ed a an c old).mpr ⟨h2.1, h2.2.up (suf_app h1) ((suf_app as).trans eq.2.1)⟩)
theorem Inv.pre (I : Inv (LC D) g rep) {s : Nat} (hs : s < g.n) (x : Nat) : x ∈ preOf g s c ↔ x < g.n ∧ rep x <:+ rep s ∧ ¬ Inner D (rep x ++ [c]) := by
  have := mem_tw (p := fun x => decide (g.ed x c = none)) (R := fun a b => (rep b <:+ rep a ∧ rep b ≠ rep a) ∧ a ∈ chain g s ∧ b ∈ chain g s) (l := chain g s) ?_ ?_ x
  · unfold preOf
    rw [this, I.mem_chain hs, decide_eq_true_eq, and_assoc]
    constructor
    · rintro ⟨h1, h2, h3⟩
      exact ⟨h1, h2, (I.ed_none h1).mp h3⟩
    · rintro ⟨h1, h2, h3⟩
      exact ⟨h1, h2, (I.ed_none h1).mpr h3⟩
  · exact (I.chain_pw hs).imp_of_mem fun ha hb h => ⟨h, ha, hb⟩
  · rintro a b ⟨⟨h1, _⟩, ha, hb⟩ hp
    obtain ⟨an, as⟩ := (I.mem_chain hs).mp ha
    obtain ⟨bn, bs⟩ := (I.mem_chain hs).mp hb
    exact decide_eq_true ((I.ed_none an).mpr fun i => (I.ed_none bn).mp (of_decide_eq_true hp) (i.suf (suf_app h1)))
end
end Sam
set_option linter.all false
/-! A letter more: the classes stay right. -/
namespace Sam
theorem lc_more {L L' : Wd → Prop} {n : Nat} {rep : Nat → Wd} {m : Wd} (lc : ∀ w, L w ↔ ∃ i, i < n ∧ rep i = w) (hL : ∀ w, L' w ↔ L w ∨ w = m) (w : Wd) : L' w ↔ ∃ i, i < n + 1 ∧ up1 rep n m i = w := by
  rw [hL, lc]
  constructor
  · rintro (⟨i, h, e⟩ | e)
    · exact ⟨i, by omega, by rw [up1_ne (by omega)]; exact e⟩
    · exact ⟨n, by omega, by rw [up1_same, e]⟩
  · rintro ⟨i, h, e⟩
    by_cases z : i = n
    · rw [z, up1_same] at e
      exact .inr e.symm
    · rw [up1_ne z] at e
      exact .inl ⟨i, by omega, e⟩
theorem inj_more {L : Wd → Prop} {n : Nat} {rep : Nat → Wd} {m : Wd} (lc : ∀ w, L w ↔ ∃ i, i < n ∧ rep i = w) (inj : ∀ i j, i < n → j < n → rep i = rep j → i = j) (nm : ¬ L m) (i j : Nat) (hi : i < n + 1) (hj : j < n + 1)
    (e : up1 rep n m i = up1 rep n m j) : i = j := by
  by_cases zi : i = n
  · by_cases zj : j = n
    · rw [zi, zj]
    · rw [zi, up1_same, up1_ne zj] at e
      exact absurd ((lc m).mpr ⟨j, by omega, e.symm⟩) nm
  · by_cases zj : j = n
    · rw [zj, up1_same, up1_ne zi] at e
      exact absurd ((lc m).mpr ⟨i, by omega, e⟩) nm
    · rw [up1_ne zi, up1_ne zj] at e
      exact inj i j (by omega) (by omega) e
/-- what a step gives: the new classes, the class of the longer beginning -/
def Step (D' : List Wd) (g : G) (rep : Nat → Wd) (w : Wd) (r : G × Nat) : Prop :=
  ∃ rep' : Nat → Wd, Inv (LC D') r.1 rep' ∧ r.2 < r.1.n ∧ rep' r.2 = w ∧ g.n ≤ r.1.n ∧ ∀ i, i < g.n → rep' i = rep i
section
variable {D D' : List Wd} {p : Wd} {c : Nat} {g : G} {rep : Nat → Wd}
theorem step_old (I : Inv (LC D) g rep) (Gr : Grow D D' p c) {s : Nat} (hs : s < g.n) (es : rep s = p) (i0 : Inner D (p ++ [c])) : Step D' g rep (p ++ [c]) (ledTo g s c) := by
  obtain ⟨old, eo⟩ := (I.ed_inner (i := s) (d := c) hs).mpr (es ▸ i0)
  obtain ⟨ho, hm⟩ := (I.ed s hs c old).mp eo
  rw [es] at hm
  have hL := Gr.lc_old i0
  unfold ledTo
  rw [eo]
  show Step D' g rep (p ++ [c]) (if g.sz old = g.sz s + 1 then _ else _)
  have so := I.sz old ho
  have ss := I.sz s hs
  rw [es] at ss
  by_cases l : LC D (p ++ [c])
  · have e := hm.of_mem l
    rw [if_pos (by rw [so, ss, e]; simp)]
    have eL : LC D' = LC D := funext fun w => propext ((hL w).trans ⟨fun h => h.elim id fun z => z ▸ l, .inl⟩)
    exact ⟨rep, by rw [eL]; exact I, ho, e, Nat.le_refl _, fun _ _ => rfl⟩
  · have vm := split_ne hm l hL
    rw [if_neg (fun z => vm (by
      have := hm.2.1.eq_of_length (by rw [so, ss] at z; simp; omega)
      exact this.symm))]
    refine ⟨up1 rep g.n (p ++ [c]), ⟨Nat.succ_pos _, ?_, inj_more I.lc I.inj l, lc_more I.lc hL, ?_, ?_, ?_⟩, Nat.lt_succ_self _, up1_same, Nat.le_succ _, fun i h => up1_ne (by omega)⟩
    · have := I.n0
      rw [up1_ne (by omega)]
      exact I.r0
    · intro i hi
      have hi2 : i < g.n + 1 := hi
      show up1 g.sz g.n (g.sz s + 1) i = _
      by_cases z : i = g.n
      · rw [z, up1_same, up1_same, ss]
        simp
      · rw [up1_ne z, up1_ne z]
        exact I.sz i (by omega)
    · intro i hi d j
      have hi2 : i < g.n + 1 := hi
      show (if d = c ∧ i ∈ redOf g s c old then some g.n else up1 g.ed g.n (g.ed old) i d) = some j ↔ j < g.n + 1 ∧ _
      by_cases z : i = g.n
      · rw [if_neg (fun q => by have := ((I.red hs eo i).mp q.2).1; omega), z, up1_same, up1_same, I.ed old ho d j, ← ext_app hm]
        constructor
        · rintro ⟨hj, e⟩
          refine ⟨by omega, ?_⟩
          rw [up1_ne (by omega)]
          refine (split_ext_old hm l hL fun q => l (q ▸ I.mem hj)).mpr ⟨e, fun q => ?_⟩
          have := q.1.length_le
          simp at this
        · rintro ⟨hj, e⟩
          by_cases zj : j = g.n
          · rw [zj, up1_same] at e
            have := e.2.1.length_le
            simp at this
          · rw [up1_ne zj] at e
            exact ⟨by omega, ((split_ext_old hm l hL fun q => l (q ▸ I.mem (by omega))).mp e).1⟩
      · have hi3 : i < g.n := by omega
        rw [up1_ne z, up1_ne z]
        have key : (d = c ∧ i ∈ redOf g s c old) ↔ (rep i ++ [d]) <:+ (p ++ [c]) ∧ Ext (LC D) (rep i ++ [d]) (rep old) := by
          rw [I.red hs eo i, es]
          constructor
          · rintro ⟨rfl, _, q, e⟩
            exact ⟨suf_app q, ((I.ed i hi3 _ old).mp e).2⟩
          · rintro ⟨q, e⟩
            obtain ⟨rfl, q2⟩ := suf_snoc q
            exact ⟨rfl, hi3, q2, (I.ed i hi3 _ old).mpr ⟨ho, e⟩⟩
        by_cases zj : j = g.n
        · rw [zj, up1_same, split_ext_new hm l hL, ← key]
          by_cases q : d = c ∧ i ∈ redOf g s c old
          · rw [if_pos q]
            exact ⟨fun _ => ⟨by omega, q⟩, fun _ => rfl⟩
          · rw [if_neg q]
            exact ⟨fun e => absurd ((I.ed i hi3 d _).mp e).1 (by omega), fun e => absurd e.2 q⟩
        · rw [up1_ne zj]
          by_cases hj : j < g.n
          · rw [split_ext_old hm l hL fun q => l (q ▸ I.mem hj)]
            have inj : rep j = rep old ↔ j = old := ⟨I.inj j old hj ho, fun e => e ▸ rfl⟩
            by_cases q : d = c ∧ i ∈ redOf g s c old
            · rw [if_pos q]
              have q2 := key.mp q
              refine ⟨fun e => absurd (Option.some.inj e).symm zj, fun e => absurd ⟨q2.1, ?_⟩ e.2.2⟩
              exact e.2.1.uniq q2.2
            · rw [if_neg q, I.ed i hi3 d j]
              refine ⟨fun e => ⟨by omega, e.2, fun q2 => q (key.mpr ⟨q2.1, q2.2 ▸ e.2⟩)⟩, fun e => ⟨hj, e.2.1⟩⟩
          · refine ⟨fun e => ?_, fun e => absurd e.1 (by omega)⟩
            by_cases q : d = c ∧ i ∈ redOf g s c old
            · rw [if_pos q] at e
              exact absurd (Option.some.inj e).symm zj
            · rw [if_neg q] at e
              exact absurd ((I.ed i hi3 d _).mp e).1 hj
    · intro i hi j
      have hi2 : i < g.n + 1 := hi
      show up1 (up1 g.lk g.n (g.lk old)) old (some g.n) i = some j ↔ j < g.n + 1 ∧ _
      have hne : old ≠ g.n := by omega
      by_cases z : i = old
      · rw [z, up1_same, up1_ne hne]
        rw [split_link_v hm l hL]
        constructor
        · intro e
          have e2 := (Option.some.inj e)
          rw [← e2, up1_same]
          exact ⟨by omega, rfl⟩
        · rintro ⟨hj, e⟩
          by_cases zj : j = g.n
          · rw [zj]
          · rw [up1_ne zj] at e
            exact absurd (e ▸ I.mem (by omega)) l
      · rw [up1_ne z]
        by_cases zi : i = g.n
        · rw [zi, up1_same, up1_same, split_link_new hm l hL, I.lk old ho j]
          constructor
          · rintro ⟨hj, e⟩
            exact ⟨by omega, by rw [up1_ne (by omega)]; exact e⟩
          · rintro ⟨hj, e⟩
            by_cases zj : j = g.n
            · rw [zj, up1_same] at e
              exact absurd e.1 l
            · rw [up1_ne zj] at e
              exact ⟨by omega, e⟩
        · have hi3 : i < g.n := by omega
          rw [up1_ne zi, up1_ne zi, split_link_old hm l hL (I.mem hi3) (fun e => z (I.inj i old hi3 ho e)), I.lk i hi3 j]
          constructor
          · rintro ⟨hj, e⟩
            exact ⟨by omega, by rw [up1_ne (by omega)]; exact e⟩
          · rintro ⟨hj, e⟩
            by_cases zj : j = g.n
            · rw [zj, up1_same] at e
              exact absurd e.1 l
            · rw [up1_ne zj] at e
              exact ⟨by omega, e⟩
/-- the letter's class is new, and linked to a class that stands -/
theorem step_fresh (I : Inv (LC D) g rep) (Gr : Grow D D' p c) {s r : Nat} (hs : s < g.n) (es : rep s = p) (np : ¬ Inner D (p ++ [c])) (hr : r < g.n) (hL : ∀ w, LC D' w ↔ LC D w ∨ w = p ++ [c]) (sr : rep r <:+ p ++ [c])
    (mx : ∀ u, u <:+ p → Inner D (u ++ [c]) → u ++ [c] <:+ rep r) (lk : Nat → Option Nat) (l1 : lk g.n = some r) (l2 : ∀ i, i < g.n → lk i = g.lk i) :
    Step D' g rep (p ++ [c]) (⟨g.n + 1, (setEd (addG g (g.sz s + 1) (fun _ => none) (some 0)) c g.n (preOf g s c)).ed, up1 g.sz g.n (g.sz s + 1), lk⟩, g.n) := by
  have nf : ∀ w, LC D w → ¬ p ++ [c] <:+ w := fun w lw h => np (lw.inner.suf h)
  have nl : ¬ LC D (p ++ [c]) := fun l => np l.inner
  have ss := I.sz s hs
  rw [es] at ss
  refine ⟨up1 rep g.n (p ++ [c]), ⟨Nat.succ_pos _, ?_, inj_more I.lc I.inj nl, lc_more I.lc hL, ?_, ?_, ?_⟩, Nat.lt_succ_self _, up1_same, Nat.le_succ _, fun i h => up1_ne (by omega)⟩
  · have := I.n0
    rw [up1_ne (by omega)]
    exact I.r0
  · intro i hi
    have hi2 : i < g.n + 1 := hi
    show up1 g.sz g.n (g.sz s + 1) i = _
    by_cases z : i = g.n
    · rw [z, up1_same, up1_same, ss]
      simp
    · rw [up1_ne z, up1_ne z]
      exact I.sz i (by omega)
  · intro i hi d j
    have hi2 : i < g.n + 1 := hi
    show (if d = c ∧ i ∈ preOf g s c then some g.n else up1 g.ed g.n (fun _ => none) i d) = some j ↔ j < g.n + 1 ∧ _
    by_cases z : i = g.n
    · rw [if_neg (fun q => by have := ((I.pre hs i).mp q.2).1; omega), z, up1_same, up1_same]
      refine ⟨(fun e => by cases e), fun ⟨hj, e⟩ => ?_⟩
      by_cases zj : j = g.n
      · rw [zj, up1_same] at e
        have := e.2.1.length_le
        simp at this
      · rw [up1_ne zj] at e
        have hj2 : j < g.n := by omega
        have := ((fresh_ext_old nf hL fun q => nl (q ▸ I.mem hj2)).mp e).inner
        exact absurd this.left np
    · have hi3 : i < g.n := by omega
      rw [up1_ne z, up1_ne z]
      have key : (d = c ∧ i ∈ preOf g s c) ↔ (rep i ++ [d]) <:+ (p ++ [c]) ∧ ∀ w, LC D w → rep i ++ [d] <:+ w → ¬ w <:+ p ++ [c] := by
        rw [I.pre hs i, es]
        constructor
        · rintro ⟨rfl, _, q, e⟩
          exact ⟨suf_app q, fun w lw h _ => e (lw.inner.suf h)⟩
        · rintro ⟨q, e⟩
          obtain ⟨rfl, q2⟩ := suf_snoc q
          exact ⟨rfl, hi3, q2, fun h => e _ (I.mem hr) (mx _ q2 h) sr⟩
      by_cases zj : j = g.n
      · rw [zj, up1_same, fresh_ext_new nf hL, ← key]
        by_cases q : d = c ∧ i ∈ preOf g s c
        · rw [if_pos q]
          exact ⟨fun _ => ⟨by omega, q⟩, fun _ => rfl⟩
        · rw [if_neg q]
          exact ⟨fun e => absurd ((I.ed i hi3 d _).mp e).1 (by omega), fun e => absurd e.2 q⟩
      · rw [up1_ne zj]
        by_cases hj : j < g.n
        · rw [fresh_ext_old nf hL fun q => nl (q ▸ I.mem hj)]
          by_cases q : d = c ∧ i ∈ preOf g s c
          · rw [if_pos q]
            refine ⟨fun e => absurd (Option.some.inj e).symm zj, fun e => ?_⟩
            have := ((I.pre hs i).mp q.2).2.2
            exact absurd (q.1 ▸ e.2.inner) this
          · rw [if_neg q, I.ed i hi3 d j]
            exact ⟨fun e => ⟨by omega, e.2⟩, fun e => ⟨hj, e.2⟩⟩
        · refine ⟨fun e => ?_, fun e => absurd e.1 (by omega)⟩
          by_cases q : d = c ∧ i ∈ preOf g s c
          · rw [if_pos q] at e
            exact absurd (Option.some.inj e).symm zj
          · rw [if_neg q] at e
            exact absurd ((I.ed i hi3 d _).mp e).1 hj
  · intro i hi j
    have hi2 : i < g.n + 1 := hi
    show lk i = some j ↔ j < g.n + 1 ∧ _
    by_cases z : i = g.n
    · have key : Link (LC D') (p ++ [c]) (rep r) := by
        refine (fresh_link_new nf hL).mpr ⟨I.mem hr, sr, fun x lx h => ?_⟩
        rcases suf_snoc_cases h with e | ⟨u, e, q⟩
        · exact e ▸ List.nil_suffix
        · exact e ▸ mx u q (e ▸ lx.inner)
      rw [z, l1, up1_same]
      constructor
      · intro e
        have e2 := Option.some.inj e
        rw [← e2, up1_ne (by omega)]
        exact ⟨by omega, key⟩
      · rintro ⟨hj, e⟩
        have e2 := key.uniq e
        by_cases zj : j = g.n
        · rw [zj, up1_same] at e2
          exact absurd (e2 ▸ I.mem hr) nl
        · rw [up1_ne zj] at e2
          rw [I.inj r j hr (by omega) e2]
    · have hi3 : i < g.n := by omega
      rw [l2 i hi3, up1_ne z, fresh_link_old nf hL (I.mem hi3), I.lk i hi3 j]
      constructor
      · rintro ⟨hj, e⟩
        exact ⟨by omega, by rw [up1_ne (by omega)]; exact e⟩
      · rintro ⟨hj, e⟩
        by_cases zj : j = g.n
        · rw [zj, up1_same] at e
          exact absurd e.1 nl
        · rw [up1_ne zj] at e
          exact ⟨by omega, e⟩
end
end Sam
set_option linter.all false
namespace Sam
theorem tw_congr {α : Type} {p q : α → Bool} : ∀ {l : List α}, (∀ x ∈ l, p x = q x) → l.takeWhile p = l.takeWhile q
  | [], _ => rfl
  | a :: l, h => by
    have h1 := h a (List.mem_cons_self ..)
    have h2 := tw_congr (l := l) fun x m => h x (List.mem_cons_of_mem _ m)
    simp only [List.takeWhile, h1, h2]
section
variable {D D' : List Wd} {p : Wd} {c : Nat} {g : G} {rep : Nat → Wd}
theorem Inv.chn_congr {L : Wd → Prop} (I : Inv L g rep) {lk : Nat → Option Nat} (h : ∀ i, i < g.n → lk i = g.lk i) : ∀ (k : Nat) {s : Nat}, s < g.n → chn lk k s = chn g.lk k s
  | 0, _, _ => rfl
  | k + 1, s, hs => by
    rw [chn, chn, h s hs]
    cases e : g.lk s with
    | none => rfl
    | some t => show s :: chn lk k t = s :: chn g.lk k t; rw [Inv.chn_congr I h k (I.dec hs e).1]
/-- the letter's class is new, and a class is split -/
theorem step_both (I : Inv (LC D) g rep) (Gr : Grow D D' p c) {s q old : Nat} (hs : s < g.n) (es : rep s = p) (np : ¬ Inner D (p ++ [c])) (hq : q < g.n) (sq : rep q <:+ p) (eo : g.ed q c = some old) (nl : ¬ LC D (rep q ++ [c]))
    (mx : ∀ u, u <:+ p → Inner D (u ++ [c]) → u <:+ rep q) (ed : Nat → Nat → Option Nat) (lk : Nat → Option Nat)
    (e1 : ∀ i, i < g.n → ∀ d, ed i d = if d = c ∧ i ∈ redOf g q c old then some (g.n + 1) else if d = c ∧ i ∈ preOf g s c then some g.n else g.ed i d)
    (e2 : ∀ d, ed g.n d = none) (e3 : ∀ d, ed (g.n + 1) d = if d = c ∧ old ∈ preOf g s c then some g.n else g.ed old d)
    (k1 : ∀ i, i < g.n → lk i = if i = old then some (g.n + 1) else g.lk i) (k2 : lk g.n = some (g.n + 1)) (k3 : lk (g.n + 1) = g.lk old) :
    Step D' g rep (p ++ [c]) (⟨g.n + 1 + 1, ed, up1 (up1 g.sz g.n (g.sz s + 1)) (g.n + 1) (g.sz q + 1), lk⟩, g.n) := by
  obtain ⟨ho, hm⟩ := (I.ed q hq c old).mp eo
  have iq := hm.inner
  have nf0 : ∀ w, LC D w → ¬ p ++ [c] <:+ w := fun w lw h => np (lw.inner.suf h)
  have nlf : ¬ LC D (p ++ [c]) := fun l => np l.inner
  have mf : rep q ++ [c] ≠ p ++ [c] := fun e => np (e ▸ iq)
  have sm : rep q ++ [c] <:+ p ++ [c] := suf_app sq
  have hL := Gr.lc_some np sq iq mx
  have hL1 : ∀ w, (fun w => LC D w ∨ w = rep q ++ [c]) w ↔ LC D w ∨ w = rep q ++ [c] := fun w => Iff.rfl
  have nf : ∀ w, (fun w => LC D w ∨ w = rep q ++ [c]) w → ¬ p ++ [c] <:+ w := by
    rintro w (lw | e) h
    · exact nf0 w lw h
    · exact np (iq.suf (e ▸ h))
  have hL2 : ∀ w, LC D' w ↔ (fun w => LC D w ∨ w = rep q ++ [c]) w ∨ w = p ++ [c] := hL
  have ss := I.sz s hs
  rw [es] at ss
  have sz_q := I.sz q hq
  -- the new words' edges and links
  have Em : ∀ u, Ext (LC D') u (rep q ++ [c]) ↔ u <:+ rep q ++ [c] ∧ Ext (LC D) u (rep old) := fun u => (fresh_ext_old nf hL2 mf).trans (split_ext_new hm nl hL1)
  have Ez : ∀ u z, LC D z → (Ext (LC D') u z ↔ Ext (LC D) u z ∧ ¬ (u <:+ rep q ++ [c] ∧ z = rep old)) := fun u z lz =>
    (fresh_ext_old nf hL2 fun e => nlf (e ▸ lz)).trans (split_ext_old hm nl hL1 fun e => nl (e ▸ lz))
  have Ef : ∀ u, Ext (LC D') u (p ++ [c]) ↔ u <:+ p ++ [c] ∧ ∀ w, (LC D w ∨ w = rep q ++ [c]) → u <:+ w → ¬ w <:+ p ++ [c] := fun u => fresh_ext_new nf hL2
  have lc2 : ∀ w, (fun w => LC D w ∨ w = p ++ [c]) w ↔ ∃ i, i < g.n + 1 ∧ up1 rep g.n (p ++ [c]) i = w := lc_more I.lc (fun w => Iff.rfl)
  have inj2 := inj_more I.lc I.inj nlf
  have nl2 : ¬ (fun w => LC D w ∨ w = p ++ [c]) (rep q ++ [c]) := fun h => h.elim nl mf
  have R0 : ∀ i, i < g.n → up1 (up1 rep g.n (p ++ [c])) (g.n + 1) (rep q ++ [c]) i = rep i := fun i h => by rw [up1_ne (by omega), up1_ne (by omega)]
  have Rn : up1 (up1 rep g.n (p ++ [c])) (g.n + 1) (rep q ++ [c]) g.n = p ++ [c] := by rw [up1_ne (by omega), up1_same]
  have Rm : up1 (up1 rep g.n (p ++ [c])) (g.n + 1) (rep q ++ [c]) (g.n + 1) = rep q ++ [c] := up1_same
  refine ⟨up1 (up1 rep g.n (p ++ [c])) (g.n + 1) (rep q ++ [c]), ⟨Nat.succ_pos _, ?_, inj_more lc2 inj2 nl2, lc_more lc2 (fun w => ?_), ?_, ?_, ?_⟩, (by show g.n < g.n + 1 + 1; omega), Rn, (by show g.n ≤ g.n + 1 + 1; omega), R0⟩
  · rw [R0 0 I.n0]
    exact I.r0
  · rw [hL w]
    constructor
    · rintro ((h | h) | h)
      · exact .inl (.inl h)
      · exact .inr h
      · exact .inl (.inr h)
    · rintro ((h | h) | h)
      · exact .inl (.inl h)
      · exact .inr h
      · exact .inl (.inr h)
  · intro i hi
    have hi2 : i < g.n + 1 + 1 := hi
    show up1 (up1 g.sz g.n (g.sz s + 1)) (g.n + 1) (g.sz q + 1) i = _
    by_cases z : i = g.n + 1
    · rw [z, up1_same, up1_same, sz_q]
      simp
    · rw [up1_ne z, up1_ne z]
      by_cases z2 : i = g.n
      · rw [z2, up1_same, up1_same, ss]
        simp
      · rw [up1_ne z2, up1_ne z2]
        exact I.sz i (by omega)
  · intro i hi d j
    have hi2 : i < g.n + 1 + 1 := hi
    show ed i d = some j ↔ j < g.n + 1 + 1 ∧ _
    by_cases z : i = g.n + 1
    · -- the class that was split off
      rw [z, e3, Rm]
      have key : (d = c ∧ old ∈ preOf g s c) ↔ (rep q ++ [c] ++ [d]) <:+ p ++ [c] := by
        rw [I.pre hs old, es]
        constructor
        · rintro ⟨rfl, _, h, _⟩
          exact suf_app (hm.2.1.trans h)
        · intro h
          obtain ⟨rfl, h2⟩ := suf_snoc h
          have h3 : rep old <:+ p := by
            obtain ⟨t, mt, y, e⟩ := Gr.hp
            obtain ⟨x, ex⟩ := h2
            obtain ⟨x', ex'⟩ := hm.occ mt (x := x) (y := y) (by rw [e, ← ex])
            exact ⟨x', (List.append_inj' (ex'.symm.trans e) rfl).1⟩
          refine ⟨rfl, ho, h3, fun i2 => ?_⟩
          have := (mx _ h2 (hm.inner_app.mpr i2)).length_le
          simp at this
          omega
      by_cases zm : j = g.n + 1
      · rw [zm, Rm, Em]
        refine ⟨fun e => ?_, fun e => ?_⟩
        · by_cases k : d = c ∧ old ∈ preOf g s c
          · rw [if_pos k] at e
            have := Option.some.inj e
            omega
          · rw [if_neg k] at e
            have := ((I.ed old ho d _).mp e).1
            omega
        · have := e.2.1.length_le
          simp at this
      · by_cases zn : j = g.n
        · rw [zn, Rn, Ef]
          constructor
          · intro e
            by_cases k : d = c ∧ old ∈ preOf g s c
            · refine ⟨by omega, key.mp k, fun w lw h1 h2 => ?_⟩
              have iw : Inner D w := lw.elim LC.inner fun e => e ▸ iq
              have h3 := key.mp k
              rw [k.1] at h1 h3
              have := (mx _ (suf_snoc h3).2 (iw.suf h1)).length_le
              simp at this
              omega
            · rw [if_neg k] at e
              have := ((I.ed old ho d _).mp e).1
              omega
          · rintro ⟨_, h, _⟩
            rw [if_pos (key.mpr h)]
        · by_cases hj : j < g.n
          · rw [R0 j hj, Ez _ _ (I.mem hj)]
            by_cases k : d = c ∧ old ∈ preOf g s c
            · rw [if_pos k]
              refine ⟨fun e => absurd (Option.some.inj e).symm zn, fun e => ?_⟩
              have i2 := hm.inner_app.mp e.2.1.inner
              have := ((I.pre hs old).mp k.2).2.2
              exact absurd (k.1 ▸ i2) this
            · rw [if_neg k, I.ed old ho d j, ← ext_app hm]
              refine ⟨fun e => ⟨by omega, e.2, fun h => ?_⟩, fun e => ⟨hj, e.2.1⟩⟩
              have := h.1.length_le
              simp at this
          · refine ⟨fun e => ?_, fun e => absurd e.1 (by omega)⟩
            by_cases k : d = c ∧ old ∈ preOf g s c
            · rw [if_pos k] at e
              exact absurd (Option.some.inj e).symm zn
            · rw [if_neg k] at e
              exact absurd ((I.ed old ho d _).mp e).1 hj
    · by_cases zi : i = g.n
      · -- the letter's class
        rw [zi, e2, Rn]
        refine ⟨(fun e => by cases e), fun ⟨hj, e⟩ => ?_⟩
        have bad : ¬ Inner D (p ++ [c] ++ [d]) := fun h => np h.left
        by_cases zm : j = g.n + 1
        · rw [zm, Rm, Em] at e
          exact absurd e.2.inner bad
        · by_cases zn : j = g.n
          · rw [zn, Rn] at e
            have := e.2.1.length_le
            simp at this
          · have hj2 : j < g.n := by omega
            rw [R0 j hj2, Ez _ _ (I.mem hj2)] at e
            exact absurd e.1.inner bad
      · -- a class that was there
        have hi3 : i < g.n := by omega
        rw [e1 i hi3, R0 i hi3]
        have kr : (d = c ∧ i ∈ redOf g q c old) ↔ (rep i ++ [d]) <:+ (rep q ++ [c]) ∧ Ext (LC D) (rep i ++ [d]) (rep old) := by
          rw [I.red hq eo i]
          constructor
          · rintro ⟨rfl, _, q, e⟩
            exact ⟨suf_app q, ((I.ed i hi3 _ old).mp e).2⟩
          · rintro ⟨q, e⟩
            obtain ⟨rfl, q2⟩ := suf_snoc q
            exact ⟨rfl, hi3, q2, (I.ed i hi3 _ old).mpr ⟨ho, e⟩⟩
        have kp : (d = c ∧ i ∈ preOf g s c) ↔ (rep i ++ [d]) <:+ (p ++ [c]) ∧ ∀ w, (LC D w ∨ w = rep q ++ [c]) → rep i ++ [d] <:+ w → ¬ w <:+ p ++ [c] := by
          rw [I.pre hs i, es]
          constructor
          · rintro ⟨rfl, _, q, e⟩
            exact ⟨suf_app q, fun w lw h _ => e ((lw.elim LC.inner fun e => e ▸ iq).suf h)⟩
          · rintro ⟨q, e⟩
            obtain ⟨rfl, q2⟩ := suf_snoc q
            exact ⟨rfl, hi3, q2, fun h => e _ (.inr rfl) (suf_app (mx _ q2 h)) sm⟩
        have dis : d = c ∧ i ∈ redOf g q c old → ¬ (d = c ∧ i ∈ preOf g s c) := fun a b => by
          have h1 := ((I.pre hs i).mp b.2).2.2
          have h2 := ((I.red hq eo i).mp a.2).2.2
          exact h1 ((I.ed_inner hi3).mp ⟨_, h2⟩)
        by_cases zm : j = g.n + 1
        · rw [zm, Rm, Em, ← kr]
          by_cases k : d = c ∧ i ∈ redOf g q c old
          · rw [if_pos k]
            exact ⟨fun _ => ⟨by omega, k⟩, fun _ => rfl⟩
          · rw [if_neg k]
            refine ⟨fun e => ?_, fun e => absurd e.2 k⟩
            by_cases k2 : d = c ∧ i ∈ preOf g s c
            · rw [if_pos k2] at e
              have := Option.some.inj e
              omega
            · rw [if_neg k2] at e
              have := ((I.ed i hi3 d _).mp e).1
              omega
        · by_cases zn : j = g.n
          · rw [zn, Rn, Ef, ← kp]
            by_cases k : d = c ∧ i ∈ redOf g q c old
            · rw [if_pos k]
              exact ⟨fun e => by have := Option.some.inj e; omega, fun e => absurd e.2 (dis k)⟩
            · rw [if_neg k]
              by_cases k2 : d = c ∧ i ∈ preOf g s c
              · rw [if_pos k2]
                exact ⟨fun _ => ⟨by omega, k2⟩, fun _ => rfl⟩
              · rw [if_neg k2]
                exact ⟨fun e => by have := ((I.ed i hi3 d _).mp e).1; omega, fun e => absurd e.2 k2⟩
          · by_cases hj : j < g.n
            · rw [R0 j hj, Ez _ _ (I.mem hj)]
              by_cases k : d = c ∧ i ∈ redOf g q c old
              · rw [if_pos k]
                have k3 := kr.mp k
                refine ⟨fun e => absurd (Option.some.inj e).symm zm, fun e => absurd ⟨k3.1, ?_⟩ e.2.2⟩
                exact e.2.1.uniq k3.2
              · rw [if_neg k]
                by_cases k2 : d = c ∧ i ∈ preOf g s c
                · rw [if_pos k2]
                  refine ⟨fun e => absurd (Option.some.inj e).symm zn, fun e => ?_⟩
                  have := ((I.pre hs i).mp k2.2).2.2
                  exact absurd (k2.1 ▸ e.2.1.inner) this
                · rw [if_neg k2, I.ed i hi3 d j]
                  exact ⟨fun e => ⟨by omega, e.2, fun h => k (kr.mpr ⟨h.1, h.2 ▸ e.2⟩)⟩, fun e => ⟨hj, e.2.1⟩⟩
            · refine ⟨fun e => ?_, fun e => absurd e.1 (by omega)⟩
              by_cases k : d = c ∧ i ∈ redOf g q c old
              · rw [if_pos k] at e
                exact absurd (Option.some.inj e).symm zm
              · rw [if_neg k] at e
                by_cases k2 : d = c ∧ i ∈ preOf g s c
                · rw [if_pos k2] at e
                  exact absurd (Option.some.inj e).symm zn
                · rw [if_neg k2] at e
                  exact absurd ((I.ed i hi3 d _).mp e).1 hj
  · intro i hi j
    have hi2 : i < g.n + 1 + 1 := hi
    show lk i = some j ↔ j < g.n + 1 + 1 ∧ _
    have Kf : Link (LC D') (p ++ [c]) (rep q ++ [c]) := by
      refine (fresh_link_new nf hL2).mpr ⟨.inr rfl, sm, fun x lx h => ?_⟩
      rcases suf_snoc_cases h with e | ⟨u, e, k⟩
      · exact e ▸ List.nil_suffix
      · have ix : Inner D x := lx.elim LC.inner fun e => e ▸ iq
        exact e ▸ suf_app (mx u k (e ▸ ix))
    have Kz : ∀ {z w}, (LC D z ∨ z = rep q ++ [c]) → (Link (LC D') z w ↔ Link (fun w => LC D w ∨ w = rep q ++ [c]) z w) := fun lz => fresh_link_old nf hL2 lz
    -- a link to an old word, told by old links
    have fin : ∀ {z : Wd}, (∀ w, Link (LC D') z w ↔ Link (LC D) z w) → ∀ {i0 : Nat}, i0 < g.n → rep i0 = z → (g.lk i0 = some j ↔ j < g.n + 1 + 1 ∧ Link (LC D') z (up1 (up1 rep g.n (p ++ [c])) (g.n + 1) (rep q ++ [c]) j)) := by
      intro z hz i0 h0 e0
      rw [I.lk i0 h0 j, hz, e0]
      constructor
      · rintro ⟨hj, e⟩
        exact ⟨by omega, by rw [R0 j hj]; exact e⟩
      · rintro ⟨hj, e⟩
        by_cases zm : j = g.n + 1
        · rw [zm, Rm] at e
          exact absurd e.1 nl
        · by_cases zn : j = g.n
          · rw [zn, Rn] at e
            exact absurd e.1 nlf
          · have hj2 : j < g.n := by omega
            rw [R0 j hj2] at e
            exact ⟨hj2, e⟩
    -- a link to the word that was split off
    have fm : ∀ {z : Wd}, Link (LC D') z (rep q ++ [c]) → (some (g.n + 1) = some j ↔ j < g.n + 1 + 1 ∧ Link (LC D') z (up1 (up1 rep g.n (p ++ [c])) (g.n + 1) (rep q ++ [c]) j)) := by
      intro z hz
      constructor
      · intro e
        have e2 := Option.some.inj e
        rw [← e2, Rm]
        exact ⟨by omega, hz⟩
      · rintro ⟨hj, e⟩
        have e2 := hz.uniq e
        by_cases zm : j = g.n + 1
        · rw [zm]
        · by_cases zn : j = g.n
          · rw [zn, Rn] at e2
            exact absurd e2 mf
          · have hj2 : j < g.n := by omega
            rw [R0 j hj2] at e2
            exact absurd (e2 ▸ I.mem hj2) nl
    by_cases z : i = g.n + 1
    · rw [z, k3, Rm]
      have : ∀ w, Link (LC D') (rep q ++ [c]) w ↔ Link (LC D) (rep old) w := fun w => (Kz (.inr rfl)).trans (split_link_new hm nl hL1)
      rw [I.lk old ho j, this]
      constructor
      · rintro ⟨hj, e⟩
        exact ⟨by omega, by rw [R0 j hj]; exact e⟩
      · rintro ⟨hj, e⟩
        by_cases zm : j = g.n + 1
        · rw [zm, Rm] at e
          exact absurd e.1 nl
        · by_cases zn : j = g.n
          · rw [zn, Rn] at e
            exact absurd e.1 nlf
          · have hj2 : j < g.n := by omega
            rw [R0 j hj2] at e
            exact ⟨hj2, e⟩
    · by_cases zi : i = g.n
      · rw [zi, k2, Rn]
        exact fm Kf
      · have hi3 : i < g.n := by omega
        rw [k1 i hi3, R0 i hi3]
        by_cases zo : i = old
        · rw [if_pos zo, zo]
          exact fm ((Kz (.inl (I.mem ho))).mpr ((split_link_v hm nl hL1).mpr rfl))
        · rw [if_neg zo]
          exact fin (fun w => (Kz (.inl (I.mem hi3))).trans (split_link_old hm nl hL1 (I.mem hi3) fun e => zo (I.inj i old hi3 ho e))) hi3 rfl
/-- a letter more -/
theorem after_ok (I : Inv (LC D) g rep) (Gr : Grow D D' p c) {s : Nat} (hs : s < g.n) (es : rep s = p) : Step D' g rep (p ++ [c]) (after g s c) := by
  unfold after
  cases e : g.ed s c with
  | some old => exact step_old I Gr hs es (es ▸ (I.ed_inner hs).mp ⟨old, e⟩)
  | none =>
    have np : ¬ Inner D (p ++ [c]) := es ▸ (I.ed_none hs).mp e
    have pw : (chain g s).Pairwise (fun a b => rep b <:+ rep a ∧ rep b ≠ rep a) := I.chain_pw hs
    show Step D' g rep (p ++ [c]) (match nextOf g s c with | none => _ | some q => _)
    cases en : nextOf g s c with
    | none =>
      have no : ∀ u, u <:+ p → ¬ Inner D (u ++ [c]) := fun u su iu => by
        obtain ⟨q, l, s1, s2, i2⟩ := Gr.up _ (Nat.le_refl _) su iu
        obtain ⟨j, hj, ej⟩ := (I.lc q).mp l
        have := dw_none en j ((I.mem_chain hs).mpr ⟨hj, by rw [ej, es]; exact s2⟩)
        exact (I.ed_none hj).mp (of_decide_eq_true this) (ej ▸ i2)
      exact step_fresh I Gr hs es np I.n0 (Gr.lc_none no) (by rw [I.r0]; exact List.nil_suffix) (fun u su iu => absurd iu (no u su)) _ up1_same (fun i h => up1_ne (by omega))
    | some q =>
      obtain ⟨cq, nq, mq⟩ := dw_some pw en
      obtain ⟨hq, sq⟩ := (I.mem_chain hs).mp cq
      rw [es] at sq
      have nq2 : g.ed q c ≠ none := of_decide_eq_false nq
      obtain ⟨old, eo⟩ := Option.ne_none_iff_exists'.mp nq2
      obtain ⟨ho, hm⟩ := (I.ed q hq c old).mp eo
      have mx : ∀ u, u <:+ p → Inner D (u ++ [c]) → u <:+ rep q := fun u su iu => by
        obtain ⟨q', l, s1, s2, i2⟩ := Gr.up _ (Nat.le_refl _) su iu
        obtain ⟨j, hj, ej⟩ := (I.lc q').mp l
        have cj := (I.mem_chain hs).mpr ⟨hj, by rw [ej, es]; exact s2⟩
        have nj : g.ed j c ≠ none := fun z => (I.ed_none hj).mp z (ej ▸ i2)
        rcases mq j cj (decide_eq_false nj) with e | ⟨h, _⟩
        · rw [← e, ej]; exact s1
        · exact s1.trans (ej ▸ h)
      have qp : q ∉ preOf g s c := fun z => ((I.pre hs q).mp z).2.2 hm.inner
      have qn : q ≠ g.n := by omega
      have on : old ≠ g.n := by omega
      show Step D' g rep (p ++ [c]) (setLk (ledTo (setEd (addG g (g.sz s + 1) (fun _ => none) (some 0)) c g.n (preOf g s c)) q c).1 g.n (some (ledTo (setEd (addG g (g.sz s + 1) (fun _ => none) (some 0)) c g.n (preOf g s c)) q c).2), g.n)
      have g2e : (setEd (addG g (g.sz s + 1) (fun _ => none) (some 0)) c g.n (preOf g s c)).ed q c = some old := by
        show (if c = c ∧ q ∈ preOf g s c then _ else up1 g.ed g.n (fun _ => none) q c) = _
        rw [if_neg (fun z => qp z.2), up1_ne qn, eo]
      have z1 : (setEd (addG g (g.sz s + 1) (fun _ => none) (some 0)) c g.n (preOf g s c)).sz old = g.sz old := up1_ne on
      have z2 : (setEd (addG g (g.sz s + 1) (fun _ => none) (some 0)) c g.n (preOf g s c)).sz q = g.sz q := up1_ne qn
      unfold ledTo
      rw [g2e]
      show Step D' g rep (p ++ [c]) (setLk (if _ then _ else _ : G × Nat).1 g.n (some (if _ then _ else _ : G × Nat).2), g.n)
      rw [z1, z2]
      have hz : g.sz old = g.sz q + 1 ↔ LC D (rep q ++ [c]) := by
        rw [I.sz old ho, I.sz q hq]
        constructor
        · intro e
          have := hm.2.1.eq_of_length (by simp; omega)
          exact this ▸ hm.1
        · intro l
          rw [hm.of_mem l]
          simp
      by_cases l : LC D (rep q ++ [c])
      · rw [if_pos (hz.mpr l)]
        have hL : ∀ w, LC D' w ↔ LC D w ∨ w = p ++ [c] := fun w => by
          rw [Gr.lc_some np sq hm.inner mx w]
          exact ⟨fun h => h.elim (fun h => h.elim .inl fun e => .inl (e ▸ l)) .inr, fun h => h.elim (fun h => .inl (.inl h)) .inr⟩
        have eo2 := hm.of_mem l
        exact step_fresh I Gr hs es np ho hL (by rw [eo2]; exact suf_app sq) (fun u su iu => by rw [eo2]; exact suf_app (mx u su iu)) _ up1_same (fun i h => by
          show up1 (up1 g.lk g.n (some 0)) g.n (some old) i = _
          rw [up1_ne (by omega), up1_ne (by omega)])
      · rw [if_neg (fun z => l (hz.mp z))]
        have rd : redOf (setEd (addG g (g.sz s + 1) (fun _ => none) (some 0)) c g.n (preOf g s c)) q c old = redOf g q c old := by
          unfold redOf
          have ec : chain (setEd (addG g (g.sz s + 1) (fun _ => none) (some 0)) c g.n (preOf g s c)) q = chain g q := by
            unfold chain
            rw [z2]
            exact I.chn_congr (fun i h => up1_ne (by omega)) _ hq
          rw [ec]
          refine tw_congr fun x hx => ?_
          obtain ⟨hx1, hx2⟩ := (I.mem_chain hq).mp hx
          have xp : x ∉ preOf g s c := fun z => ((I.pre hs x).mp z).2.2 (hm.inner.suf (suf_app hx2))
          have : (setEd (addG g (g.sz s + 1) (fun _ => none) (some 0)) c g.n (preOf g s c)).ed x c = g.ed x c := by
            show (if c = c ∧ x ∈ preOf g s c then _ else up1 g.ed g.n (fun _ => none) x c) = _
            rw [if_neg (fun z => xp z.2), up1_ne (by omega)]
          rw [this]
        rw [rd]
        refine step_both I Gr hs es np hq sq eo l mx _ _ (fun i h d => ?_) (fun d => ?_) (fun d => ?_) (fun i h => ?_) ?_ ?_
        · show (if d = c ∧ i ∈ redOf g q c old then some (g.n + 1) else up1 (fun x d => if d = c ∧ x ∈ preOf g s c then some g.n else up1 g.ed g.n (fun _ => none) x d) (g.n + 1) _ i d) = _
          rw [up1_ne (by omega), up1_ne (by omega)]
        · show (if d = c ∧ g.n ∈ redOf g q c old then some (g.n + 1) else up1 (fun x d => if d = c ∧ x ∈ preOf g s c then some g.n else up1 g.ed g.n (fun _ => none) x d) (g.n + 1) _ g.n d) = _
          rw [if_neg (fun z => by have := ((I.red hq eo _).mp z.2).1; omega), up1_ne (by omega)]
          show (if d = c ∧ g.n ∈ preOf g s c then some g.n else up1 g.ed g.n (fun _ => none) g.n d) = _
          rw [if_neg (fun z => by have := ((I.pre hs _).mp z.2).1; omega), up1_same]
        · show (if d = c ∧ g.n + 1 ∈ redOf g q c old then some (g.n + 1) else up1 (fun x d => if d = c ∧ x ∈ preOf g s c then some g.n else up1 g.ed g.n (fun _ => none) x d) (g.n + 1) _ (g.n + 1) d) = _
          rw [if_neg (fun z => by have := ((I.red hq eo _).mp z.2).1; omega), up1_same]
          show (if d = c ∧ old ∈ preOf g s c then some g.n else up1 g.ed g.n (fun _ => none) old d) = _
          rw [up1_ne on]
        · show up1 (up1 (up1 (up1 g.lk g.n (some 0)) (g.n + 1) _) old (some (g.n + 1))) g.n (some (g.n + 1)) i = _
          rw [up1_ne (by omega)]
          by_cases zo : i = old
          · rw [if_pos zo, zo, up1_same]
          · rw [if_neg zo, up1_ne zo, up1_ne (by omega), up1_ne (by omega)]
        · exact up1_same
        · show up1 (up1 (up1 (up1 g.lk g.n (some 0)) (g.n + 1) (up1 g.lk g.n (some 0) old)) old (some (g.n + 1))) g.n (some (g.n + 1)) (g.n + 1) = _
          rw [up1_ne (by omega), up1_ne (by omega), up1_same, up1_ne on]
end
end Sam
set_option linter.all false
/-! Shortest words, and the classes in breadth. -/
namespace Sam
/-- by the number of letters, then as texts -/
def slx (u v : Wd) : Prop := u.length < v.length ∨ (u.length = v.length ∧ u < v)
theorem slx_irr {u : Wd} (h : slx u u) : False := by
  rcases h with h | ⟨_, h⟩
  · omega
  · exact List.lt_irrefl u h
theorem slx_trans {u v w : Wd} (h1 : slx u v) (h2 : slx v w) : slx u w := by
  rcases h1 with h1 | ⟨e1, h1⟩
  · rcases h2 with h2 | ⟨e2, h2⟩
    · exact .inl (by omega)
    · exact .inl (by omega)
  · rcases h2 with h2 | ⟨e2, h2⟩
    · exact .inl (by omega)
    · exact .inr ⟨by omega, List.lt_trans h1 h2⟩
theorem slx_tot (u v : Wd) : slx u v ∨ u = v ∨ slx v u := by
  rcases Nat.lt_trichotomy u.length v.length with h | h | h
  · exact .inl (.inl h)
  · by_cases a : u < v
    · exact .inl (.inr ⟨h, a⟩)
    · by_cases b : v < u
      · exact .inr (.inr (.inr ⟨h.symm, b⟩))
      · exact .inr (.inl (List.le_antisymm (List.not_lt.mp b) (List.not_lt.mp a)))
  · exact .inr (.inr (.inl h))
theorem lt_snoc {c d : Nat} : ∀ {u v : Wd}, u.length = v.length → u < v → u ++ [c] < v ++ [d]
  | [], [], _, h => absurd h (List.lt_irrefl _)
  | a :: u, b :: v, hl, h => by
    rcases List.cons_lt_cons_iff.mp h with h | ⟨e, h⟩
    · exact List.cons_lt_cons_iff.mpr (.inl h)
    · exact List.cons_lt_cons_iff.mpr (.inr ⟨e, lt_snoc (by simpa using hl) h⟩)
theorem lt_last {c d : Nat} (h : c < d) : ∀ u : Wd, u ++ [c] < u ++ [d]
  | [] => List.cons_lt_cons_iff.mpr (.inl h)
  | a :: u => List.cons_lt_cons_iff.mpr (.inr ⟨rfl, lt_last h u⟩)
theorem slx_snoc {u v : Wd} {c d : Nat} (h : slx u v) : slx (u ++ [c]) (v ++ [d]) := by
  rcases h with h | ⟨e, h⟩
  · exact .inl (by simpa using h)
  · exact .inr ⟨by simpa using e, lt_snoc e h⟩
theorem slx_last {u : Wd} {c d : Nat} (h : c < d) : slx (u ++ [c]) (u ++ [d]) := .inr ⟨by simp, lt_last h u⟩
def leastSz (g : G) (i : Nat) : Nat := match g.lk i with
  | none => 0
  | some j => g.sz j + 1
/-- the shortest word of a class -/
def mw (g : G) (rep : Nat → Wd) (i : Nat) : Wd := (rep i).drop ((rep i).length - leastSz g i)
section
variable {D : List Wd} {g : G} {rep : Nat → Wd} (I : Inv (LC D) g rep)
include I
theorem Inv.cls {i : Nat} (hi : i < g.n) (u : Wd) : Ext (LC D) u (rep i) ↔ u <:+ rep i ∧ leastSz g i ≤ u.length := by
  unfold leastSz
  cases e : g.lk i with
  | none =>
    have z := I.lk_none hi e
    refine ⟨fun h => ⟨h.2.1, Nat.zero_le _⟩, fun ⟨s, _⟩ => ?_⟩
    rw [z] at s ⊢
    rw [List.suffix_nil.mp s]
    exact .self (z ▸ I.mem hi)
  | some j =>
    obtain ⟨hj, hz, sj, nj⟩ := I.dec hi e
    have l := ((I.lk i hi j).mp e).2
    have sj2 := I.sz j hj
    constructor
    · intro h
      refine ⟨h.2.1, ?_⟩
      show g.sz j + 1 ≤ u.length
      refine Classical.byContradiction fun n => nj ?_
      exact h.2.2 _ (I.mem hj) (suf_of h.2.1 sj (by omega)) sj
    · rintro ⟨s, h⟩
      have h : g.sz j + 1 ≤ u.length := h
      refine ⟨I.mem hi, s, fun w lw h1 h2 => Classical.byContradiction fun n => ?_⟩
      have := (l.2.2.2 w lw h2 n).length_le
      have := h1.length_le
      omega
theorem Inv.least_le {i : Nat} (hi : i < g.n) : leastSz g i ≤ (rep i).length := by
  have := (I.cls hi (rep i)).mp (.self (I.mem hi))
  exact this.2
theorem Inv.mw_len {i : Nat} (hi : i < g.n) : (mw g rep i).length = leastSz g i := by
  unfold mw
  have := I.least_le hi
  rw [List.length_drop]
  omega
theorem Inv.mw_ext {i : Nat} (hi : i < g.n) : Ext (LC D) (mw g rep i) (rep i) :=
  (I.cls hi _).mpr ⟨List.drop_suffix _ _, by rw [I.mw_len hi]; exact Nat.le_refl _⟩
theorem Inv.mw_le {i : Nat} (hi : i < g.n) {u : Wd} (h : Ext (LC D) u (rep i)) : mw g rep i <:+ u := by
  have := (I.cls hi u).mp h
  exact suf_of (List.drop_suffix _ _) this.1 (by rw [I.mw_len hi]; exact this.2)
theorem Inv.mw_inj {i j : Nat} (hi : i < g.n) (hj : j < g.n) (h : mw g rep i = mw g rep j) : i = j :=
  I.inj i j hi hj ((I.mw_ext hi).uniq (h ▸ I.mw_ext hj))
theorem Inv.mw_zero : mw g rep 0 = [] := by
  unfold mw
  rw [I.r0]
  exact List.drop_nil
theorem Inv.mw_nil {i : Nat} (hi : i < g.n) (h : mw g rep i = []) : i = 0 := I.mw_inj hi I.n0 (h.trans I.mw_zero.symm)
theorem Inv.mw_edge {x y c : Nat} (hy : y < g.n) (e : g.ed y c = some x) : x < g.n ∧ mw g rep x <:+ mw g rep y ++ [c] := by
  obtain ⟨hx, h⟩ := (I.ed y hy c x).mp e
  exact ⟨hx, I.mw_le hx ((ext_app (I.mw_ext hy)).mpr h)⟩
theorem Inv.mw_par {x : Nat} (hx : x < g.n) (n : mw g rep x ≠ []) : ∃ y c, y < g.n ∧ mw g rep x = mw g rep y ++ [c] ∧ g.ed y c = some x := by
  rcases List.eq_nil_or_concat (mw g rep x) with e | ⟨u, c, e⟩
  · exact absurd e n
  · rw [List.concat_eq_append] at e
    have hm := I.mw_ext hx
    rw [e] at hm
    obtain ⟨v, hv⟩ := hm.inner.left.ext
    obtain ⟨y, hy, ey⟩ := (I.lc v).mp hv.1
    subst ey
    have h1 : Ext (LC D) (rep y ++ [c]) (rep x) := (ext_app hv).mp hm
    have h2 := I.mw_le hx ((ext_app (I.mw_ext hy)).mpr h1)
    rw [e] at h2
    have h3 := (suf_snoc h2).2
    have h4 := I.mw_le hy hv
    exact ⟨y, c, hy, by rw [e, suf_antisymm h3 h4], (I.ed y hy c x).mpr ⟨hx, h1⟩⟩
end
/-- the classes met so far: those whose shortest word without its last letter has been gone through -/
structure Bf (g : G) (rep : Nat → Wd) (os : List Nat) (at_ : Nat) (P : Nat → Prop) : Prop where
  h0 : os[0]? = some 0
  lt : ∀ x ∈ os, x < g.n
  so : os.Pairwise (fun a b => slx (mw g rep a) (mw g rep b))
  mem : ∀ x, x < g.n → (x ∈ os ↔ x = 0 ∨ ∃ k y c, os[k]? = some y ∧ mw g rep x = mw g rep y ++ [c] ∧ (k < at_ ∨ (k = at_ ∧ P c)))
theorem Bf.nd {g : G} {rep : Nat → Wd} {os : List Nat} {at_ : Nat} {P : Nat → Prop} (B : Bf g rep os at_ P) : os.Nodup := by
  refine List.Pairwise.imp ?_ B.so
  intro a b h e
  rw [e] at h
  exact slx_irr h
theorem nd_len : ∀ (n : Nat) (l : List Nat), l.Nodup → (∀ x ∈ l, x < n) → l.length ≤ n
  | 0, [], _, _ => Nat.le_refl _
  | 0, a :: l, _, h => absurd (h a (List.mem_cons_self ..)) (Nat.not_lt_zero _)
  | n + 1, l, nd, h => by
    have h1 := nd_len n (l.erase n) (nd.erase n) fun x hx => by
      have := h x (List.mem_of_mem_erase hx)
      have : x ≠ n := (List.Nodup.mem_erase_iff nd).mp hx |>.1
      omega
    have := List.length_erase (a := n) (l := l)
    split at this <;> omega
section
variable {D : List Wd} {g : G} {rep : Nat → Wd} (I : Inv (LC D) g rep) {os : List Nat} {at_ : Nat} {P : Nat → Prop}
include I
theorem Bf.start : Bf g rep [0] 0 fun _ => False := by
  refine ⟨rfl, fun x h => by rw [List.mem_singleton.mp h]; exact I.n0, by simp, fun x hx => ?_⟩
  rw [List.mem_singleton]
  refine ⟨.inl, fun h => h.elim id ?_⟩
  rintro ⟨k, y, c, _, _, h | ⟨_, h⟩⟩
  · omega
  · exact h.elim
theorem Bf.pos (B : Bf g rep os at_ P) {i j x y : Nat} (hx : os[i]? = some x) (hy : os[j]? = some y) (h : slx (mw g rep x) (mw g rep y)) : i < j := by
  refine Classical.byContradiction fun n => ?_
  obtain ⟨hi, ei⟩ := List.getElem?_eq_some_iff.mp hx
  obtain ⟨hj, ej⟩ := List.getElem?_eq_some_iff.mp hy
  by_cases e : i = j
  · subst e
    rw [ei] at ej
    exact slx_irr (ej ▸ h)
  · have := List.pairwise_iff_getElem.mp B.so j i hj hi (by omega)
    rw [ei, ej] at this
    exact slx_irr (slx_trans h this)
theorem Bf.all (B : Bf g rep os at_ P) {y : Nat} (hy : os[at_]? = some y) : ∀ (n : Nat) {z : Nat}, (mw g rep z).length ≤ n → z < g.n → slx (mw g rep z) (mw g rep y) → ∃ k, k < at_ ∧ os[k]? = some z
  | n, z, hn, hz, h => by
    have fin : z ∈ os → ∃ k, k < at_ ∧ os[k]? = some z := fun m => by
      obtain ⟨k, hk, ek⟩ := List.getElem_of_mem m
      have e : os[k]? = some z := by rw [List.getElem?_eq_getElem hk, ek]
      exact ⟨k, Bf.pos I B e hy h, e⟩
    by_cases z0 : z = 0
    · exact fin ((B.mem z hz).mpr (.inl z0))
    · obtain ⟨y', c, hy', e, _⟩ := I.mw_par hz (fun q => z0 (I.mw_nil hz q))
      have hl : (mw g rep z).length = (mw g rep y').length + 1 := by rw [e]; simp
      match n, hn with
      | 0, hn => omega
      | n + 1, hn =>
        have hle : (mw g rep z).length ≤ (mw g rep y).length := by
          rcases h with h | ⟨h, _⟩ <;> omega
        obtain ⟨k, hk, ek⟩ := Bf.all B hy n (z := y') (by omega) hy' (.inl (by omega))
        exact fin ((B.mem z hz).mpr (.inr ⟨k, y', c, ek, e, .inl hk⟩))
/-- a letter of the class that is gone through -/
theorem Bf.step (B : Bf g rep os at_ P) {y c x : Nat} (hy : os[at_]? = some y) (e : g.ed y c = some x) (hP : ∀ d, P d → d < c) :
    x < g.n ∧ Bf g rep (if x ∈ os then os else os ++ [x]) at_ (fun d => P d ∨ d = c) := by
  have yn := B.lt y (List.mem_of_getElem? hy)
  obtain ⟨hx, sx⟩ := I.mw_edge yn e
  refine ⟨hx, ?_⟩
  have hat : at_ < os.length := (List.getElem?_eq_some_iff.mp hy).1
  by_cases k : mw g rep x = mw g rep y ++ [c]
  · have nx : x ∉ os := fun m => by
      rcases (B.mem x hx).mp m with z | ⟨j, y', c', hj, e', h⟩
      · rw [z, I.mw_zero] at k
        simp at k
      · rw [k] at e'
        obtain ⟨e1, e2⟩ := List.append_inj' e' rfl
        have e3 : c = c' := by simpa using e2
        have yn' := B.lt y' (List.mem_of_getElem? hj)
        have e4 := I.mw_inj yn yn' e1
        subst e3 e4
        rcases h with h | ⟨_, h⟩
        · have := (List.getElem?_inj hat B.nd).mp (hy.trans hj.symm)
          omega
        · exact Nat.lt_irrefl _ (hP c h)
    rw [if_neg nx]
    refine ⟨by rw [List.getElem?_append_left (by omega)]; exact B.h0, fun z hz => ?_, ?_, fun z hz => ?_⟩
    · rcases List.mem_append.mp hz with m | m
      · exact B.lt z m
      · rw [List.mem_singleton.mp m]; exact hx
    · rw [List.pairwise_append]
      refine ⟨B.so, by simp, fun z hz x' hx' => ?_⟩
      rw [List.mem_singleton.mp hx', k]
      rcases (B.mem z (B.lt z hz)).mp hz with q | ⟨j, y', c', hj, e', h⟩
      · rw [q, I.mw_zero]
        exact .inl (by simp)
      · rw [e']
        rcases h with h | ⟨h, h2⟩
        · refine slx_snoc ?_
          obtain ⟨hj1, hj2⟩ := List.getElem?_eq_some_iff.mp hj
          obtain ⟨ha1, ha2⟩ := List.getElem?_eq_some_iff.mp hy
          have := List.pairwise_iff_getElem.mp B.so j at_ hj1 ha1 h
          rw [hj2, ha2] at this
          exact this
        · subst h
          rw [hy] at hj
          cases hj
          exact slx_last (hP c' h2)
    · rw [List.mem_append, List.mem_singleton, B.mem z hz]
      constructor
      · rintro ((q | ⟨j, y', c', hj, e', h⟩) | q)
        · exact .inl q
        · refine .inr ⟨j, y', c', ?_, e', h.imp id fun h => ⟨h.1, .inl h.2⟩⟩
          rw [List.getElem?_append_left (List.getElem?_eq_some_iff.mp hj).1]
          exact hj
        · refine .inr ⟨at_, y, c, ?_, by rw [q]; exact k, .inr ⟨rfl, .inr rfl⟩⟩
          rw [List.getElem?_append_left hat]
          exact hy
      · rintro (q | ⟨j, y', c', hj, e', h⟩)
        · exact .inl (.inl q)
        · have hj2 : j < os.length := by rcases h with h | ⟨h, _⟩ <;> omega
          rw [List.getElem?_append_left hj2] at hj
          rcases h with h | ⟨h, h2 | h2⟩
          · exact .inl (.inr ⟨j, y', c', hj, e', .inl h⟩)
          · exact .inl (.inr ⟨j, y', c', hj, e', .inr ⟨h, h2⟩⟩)
          · right
            subst h h2
            rw [hy] at hj
            cases hj
            exact I.mw_inj hz hx (e'.trans k.symm)
  · have xm : x ∈ os := by
      by_cases x0 : x = 0
      · exact (B.mem x hx).mpr (.inl x0)
      · obtain ⟨y', c', hy', e', _⟩ := I.mw_par hx (fun q => x0 (I.mw_nil hx q))
        have hl : (mw g rep x).length = (mw g rep y').length + 1 := by rw [e']; simp
        have hle := sx.length_le
        have hne : (mw g rep x).length ≠ (mw g rep y ++ [c]).length := fun q => k (sx.eq_of_length q)
        simp at hle hne
        obtain ⟨j, hj, ej⟩ := Bf.all I B hy _ (Nat.le_refl _) hy' (.inl (by omega))
        exact (B.mem x hx).mpr (.inr ⟨j, y', c', ej, e', .inl hj⟩)
    rw [if_pos xm]
    refine ⟨B.h0, B.lt, B.so, fun z hz => ?_⟩
    rw [B.mem z hz]
    constructor
    · rintro (q | ⟨j, y', c', hj, e', h⟩)
      · exact .inl q
      · exact .inr ⟨j, y', c', hj, e', h.imp id fun h => ⟨h.1, .inl h.2⟩⟩
    · rintro (q | ⟨j, y', c', hj, e', h⟩)
      · exact .inl q
      · rcases h with h | ⟨h, h2 | h2⟩
        · exact .inr ⟨j, y', c', hj, e', .inl h⟩
        · exact .inr ⟨j, y', c', hj, e', .inr ⟨h, h2⟩⟩
        · subst h h2
          rw [hy] at hj
          cases hj
          have : g.ed y c' = some z := by
            have h1 := I.mw_ext hz
            rw [e'] at h1
            exact (I.ed y yn c' z).mpr ⟨hz, (ext_app (I.mw_ext yn)).mp h1⟩
          rw [e] at this
          have := Option.some.inj this
          exact absurd (this ▸ e') k
/-- all its letters have been gone through -/
theorem Bf.next (B : Bf g rep os at_ P) {y : Nat} (hy : os[at_]? = some y) (h : ∀ c, (∃ x, g.ed y c = some x) → P c) : Bf g rep os (at_ + 1) fun _ => False := by
  have yn := B.lt y (List.mem_of_getElem? hy)
  refine ⟨B.h0, B.lt, B.so, fun z hz => ?_⟩
  rw [B.mem z hz]
  constructor
  · rintro (q | ⟨j, y', c', hj, e', k | ⟨k, _⟩⟩)
    · exact .inl q
    · exact .inr ⟨j, y', c', hj, e', .inl (by omega)⟩
    · exact .inr ⟨j, y', c', hj, e', .inl (by omega)⟩
  · rintro (q | ⟨j, y', c', hj, e', k | ⟨_, k⟩⟩)
    · exact .inl q
    · by_cases k2 : j = at_
      · subst k2
        rw [hy] at hj
        cases hj
        refine .inr ⟨j, y, c', hy, e', .inr ⟨rfl, h c' ⟨z, ?_⟩⟩⟩
        have h1 := I.mw_ext hz
        rw [e'] at h1
        exact (I.ed y yn c' z).mpr ⟨hz, (ext_app (I.mw_ext yn)).mp h1⟩
      · exact .inr ⟨j, y', c', hj, e', .inl (by omega)⟩
    · exact k.elim
theorem Bf.len_le (B : Bf g rep os at_ P) : os.length ≤ g.n := nd_len g.n os B.nd B.lt
/-- at the end all classes stand there -/
theorem Bf.full (B : Bf g rep os at_ P) (h : os.length ≤ at_) : ∀ (n : Nat) {z : Nat}, (mw g rep z).length ≤ n → z < g.n → z ∈ os
  | n, z, hn, hz => by
    by_cases z0 : z = 0
    · exact (B.mem z hz).mpr (.inl z0)
    · obtain ⟨y', c', hy', e', _⟩ := I.mw_par hz (fun q => z0 (I.mw_nil hz q))
      have hl : (mw g rep z).length = (mw g rep y').length + 1 := by rw [e']; simp
      match n, hn with
      | 0, hn => omega
      | n + 1, hn =>
        have m := Bf.full B h n (z := y') (by omega) hy'
        obtain ⟨j, hj, ej⟩ := List.getElem_of_mem m
        exact (B.mem z hz).mpr (.inr ⟨j, y', c', by rw [List.getElem?_eq_getElem hj, ej], e', .inl (by omega)⟩)
end
end Sam
set_option linter.all false
/-! The start, a new text, the numbers in order; the places of words. -/
namespace Sam
theorem nd_same {α : Type} {l m : List α} (h1 : l.Nodup) (h2 : m.Nodup) (h : ∀ a, a ∈ l ↔ a ∈ m) : l.length = m.length := ((List.perm_ext_iff_of_nodup h1 h2).mpr h).length_eq
theorem inner_nil {u : Wd} : Inner [[]] u ↔ u = [] := by
  constructor
  · rintro ⟨t, m, x, y, e⟩
    rw [List.mem_singleton.mp m] at e
    have := congrArg List.length e
    simp at this
    exact List.eq_nil_of_length_eq_zero (by omega)
  · rintro rfl
    exact ⟨[], by simp, [], [], rfl⟩
theorem lc_start (w : Wd) : LC [[]] w ↔ w = [] := by
  constructor
  · exact fun h => inner_nil.mp h.inner
  · rintro rfl
    exact .inl ⟨[], by simp, [], rfl⟩
def g0 : G := ⟨1, fun _ _ => none, fun _ => 0, fun _ => none⟩
theorem inv_start : Inv (LC [[]]) g0 (fun _ => []) := by
  have z : ∀ i, i < 1 → i = 0 := fun i h => by omega
  refine ⟨Nat.one_pos, rfl, fun i j hi hj _ => by rw [z i hi, z j hj], fun w => ?_, fun _ _ => rfl, fun i hi c j => ?_, fun i hi j => ?_⟩
  · rw [lc_start]
    exact ⟨fun e => ⟨0, Nat.one_pos, e.symm⟩, fun ⟨_, _, e⟩ => e.symm⟩
  · refine ⟨(fun e => by cases e), fun ⟨_, e⟩ => ?_⟩
    have := e.2.1.length_le
    simp at this
  · refine ⟨(fun e => by cases e), fun ⟨_, e⟩ => absurd rfl e.2.2.1⟩
theorem lc_text {D : List Wd} (h : D ≠ []) : LC (D ++ [[]]) = LC D := by
  obtain ⟨t, ht⟩ := List.exists_mem_of_ne_nil D h
  have inn : ∀ u, Inner (D ++ [[]]) u ↔ Inner D u := fun u => by
    constructor
    · rintro ⟨t', m, x, y, e⟩
      rcases List.mem_append.mp m with m | m
      · exact ⟨t', m, x, y, e⟩
      · have : u = [] := inner_nil.mp ⟨t', m, x, y, e⟩
        exact ⟨t, ht, [], t, by rw [this]; rfl⟩
    · rintro ⟨t', m, x, y, e⟩
      exact ⟨t', List.mem_append_left _ m, x, y, e⟩
  have pre : ∀ u, Pre (D ++ [[]]) u ↔ Pre D u := fun u => by
    constructor
    · rintro ⟨t', m, y, e⟩
      rcases List.mem_append.mp m with m | m
      · exact ⟨t', m, y, e⟩
      · have : u = [] := inner_nil.mp ⟨t', m, [], y, e⟩
        exact ⟨t, ht, t, by rw [this]; rfl⟩
    · rintro ⟨t', m, y, e⟩
      exact ⟨t', List.mem_append_left _ m, y, e⟩
  funext u
  unfold LC
  rw [pre]
  refine propext ⟨fun h => h.imp id ?_, fun h => h.imp id ?_⟩
  · rintro ⟨a, b, n, h1, h2⟩
    exact ⟨a, b, n, (inn _).mp h1, (inn _).mp h2⟩
  · rintro ⟨a, b, n, h1, h2⟩
    exact ⟨a, b, n, (inn _).mpr h1, (inn _).mpr h2⟩
/-! other numbers -/
def reG (g : G) (os : List Nat) : G := ⟨g.n, fun k c => (g.ed (os.getD k 0) c).map fun x => os.idxOf x, fun k => g.sz (os.getD k 0), fun k => (g.lk (os.getD k 0)).map fun x => os.idxOf x⟩
def reR (rep : Nat → Wd) (os : List Nat) : Nat → Wd := fun k => rep (os.getD k 0)
section
variable {L : Wd → Prop} {g : G} {rep : Nat → Wd} {os : List Nat} (I : Inv L g rep) (nd : os.Nodup) (lt : ∀ x ∈ os, x < g.n) (full : ∀ x, x < g.n → x ∈ os)
include nd lt full
theorem re_len : os.length = g.n := by
  have := nd_same nd (List.nodup_range (n := g.n)) fun a => ⟨fun h => List.mem_range.mpr (lt a h), fun h => full a (List.mem_range.mp h)⟩
  rwa [List.length_range] at this
theorem re_o {k : Nat} (h : k < g.n) : os.getD k 0 < g.n ∧ os.idxOf (os.getD k 0) = k := by
  have hl := re_len nd lt full
  have hk : k < os.length := by omega
  have e : os.getD k 0 = os[k] := by rw [List.getD_eq_getElem?_getD, List.getElem?_eq_getElem hk]; rfl
  rw [e]
  exact ⟨lt _ (List.getElem_mem hk), nd.idxOf_getElem k hk⟩
theorem re_n {x : Nat} (h : x < g.n) : os.idxOf x < g.n ∧ os.getD (os.idxOf x) 0 = x := by
  have hl := re_len nd lt full
  have hk := List.idxOf_lt_length_of_mem (full x h)
  refine ⟨by omega, ?_⟩
  rw [List.getD_eq_getElem?_getD, List.getElem?_eq_getElem hk]
  exact List.getElem_idxOf hk
include I
theorem Inv.reorder (h0 : os.getD 0 0 = 0) : Inv L (reG g os) (reR rep os) := by
  have o := fun {k : Nat} => re_o (k := k) nd lt full
  have n := fun {k : Nat} => re_n (x := k) nd lt full
  have map_iff : ∀ (m : Option Nat) (j : Nat), (∀ x, m = some x → x < g.n) → (m.map (fun x => os.idxOf x) = some j ↔ j < g.n ∧ m = some (os.getD j 0)) := fun m j hm => by
    cases m with
    | none => simp
    | some x =>
      have hx := hm x rfl
      constructor
      · intro e
        have e2 : os.idxOf x = j := Option.some.inj e
        rw [← e2]
        exact ⟨(n hx).1, by rw [(n hx).2]⟩
      · rintro ⟨hj, e⟩
        have e2 : x = os.getD j 0 := Option.some.inj e
        show some (os.idxOf x) = some j
        rw [e2, (o hj).2]
  refine ⟨I.n0, ?_, fun i j hi hj e => ?_, fun w => ?_, fun i hi => ?_, fun i hi c j => ?_, fun i hi j => ?_⟩
  · show rep (os.getD 0 0) = []
    rw [h0]
    exact I.r0
  · have := I.inj _ _ (o hi).1 (o hj).1 e
    rw [← (o hi).2, ← (o hj).2, this]
  · rw [I.lc]
    constructor
    · rintro ⟨i, hi, e⟩
      exact ⟨os.idxOf i, (n hi).1, by show rep (os.getD (os.idxOf i) 0) = w; rw [(n hi).2]; exact e⟩
    · rintro ⟨i, hi, e⟩
      exact ⟨_, (o hi).1, e⟩
  · exact I.sz _ (o hi).1
  · show (g.ed (os.getD i 0) c).map (fun x => os.idxOf x) = some j ↔ _
    rw [map_iff _ _ fun x hx => ((I.ed _ (o hi).1 c x).mp hx).1, I.ed _ (o hi).1 c]
    constructor
    · rintro ⟨hj, _, e⟩
      exact ⟨hj, e⟩
    · rintro ⟨hj, e⟩
      exact ⟨hj, (o hj).1, e⟩
  · show (g.lk (os.getD i 0)).map (fun x => os.idxOf x) = some j ↔ _
    rw [map_iff _ _ fun x hx => ((I.lk _ (o hi).1 x).mp hx).1, I.lk _ (o hi).1]
    constructor
    · rintro ⟨hj, _, e⟩
      exact ⟨hj, e⟩
    · rintro ⟨hj, e⟩
      exact ⟨hj, (o hj).1, e⟩
theorem Inv.re_mw {k : Nat} (h : k < g.n) : mw (reG g os) (reR rep os) k = mw g rep (os.getD k 0) := by
  have o := fun {k : Nat} => re_o (k := k) nd lt full
  have n := fun {k : Nat} => re_n (x := k) nd lt full
  have : leastSz (reG g os) k = leastSz g (os.getD k 0) := by
    unfold leastSz
    show (match (g.lk (os.getD k 0)).map (fun x => os.idxOf x) with | none => 0 | some j => g.sz (os.getD j 0) + 1) = _
    cases e : g.lk (os.getD k 0) with
    | none => rfl
    | some x =>
      have hx := (I.dec (o h).1 e).1
      show g.sz (os.getD (os.idxOf x) 0) + 1 = g.sz x + 1
      rw [(n hx).2]
  unfold mw
  rw [this]
  rfl
end
/-- the classes of D, by their shortest words -/
structure Fin (D : List Wd) (g : G) (rep : Nat → Wd) : Prop where
  inv : Inv (LC D) g rep
  so : ∀ i j, i < j → j < g.n → slx (mw g rep i) (mw g rep j)
theorem fin_of {D : List Wd} {g : G} {rep : Nat → Wd} {os : List Nat} {at_ : Nat} {P : Nat → Prop} (I : Inv (LC D) g rep) (B : Bf g rep os at_ P) (h : os.length ≤ at_) : Fin D (reG g os) (reR rep os) := by
  have full : ∀ x, x < g.n → x ∈ os := fun x hx => Bf.full I B h _ (Nat.le_refl _) hx
  refine ⟨I.reorder B.nd B.lt full (by rw [List.getD_eq_getElem?_getD, B.h0]; rfl), fun i j hij hj => ?_⟩
  have hj : j < g.n := hj
  have hl := re_len B.nd B.lt full
  rw [I.re_mw B.nd B.lt full (by omega), I.re_mw B.nd B.lt full hj]
  have h1 : i < os.length := by omega
  have h2 : j < os.length := by omega
  have := List.pairwise_iff_getElem.mp B.so i j h1 h2 hij
  rw [List.getD_eq_getElem?_getD, List.getD_eq_getElem?_getD, List.getElem?_eq_getElem h1, List.getElem?_eq_getElem h2]
  exact this
/-- a link has a less number -/
theorem Fin.lk_lt {D : List Wd} {g : G} {rep : Nat → Wd} (F : Fin D g rep) {i j : Nat} (hi : i < g.n) (e : g.lk i = some j) : j < i := by
  obtain ⟨hj, hz, _⟩ := F.inv.dec hi e
  rcases Nat.lt_trichotomy i j with h | h | h
  · have := F.so i j h hj
    have h1 := F.inv.mw_len hi
    have h2 := F.inv.mw_len hj
    have h3 := F.inv.least_le hj
    have h4 := F.inv.sz j hj
    have h5 : leastSz g i = g.sz j + 1 := by unfold leastSz; rw [e]
    rcases this with q | ⟨q, _⟩ <;> omega
  · subst h; omega
  · exact h
/-! places -/
/-- where a word ends in a text -/
def endsIn (w t : Wd) : List Nat := (List.range (t.length + 1)).filter fun k => w.isSuffixOf (t.take k)
def plc (hs : List (Int × Wd)) (w : Wd) : List (Int × Nat) := hs.flatMap fun q => (endsIn w q.2).map fun k => (q.1, k)
theorem mem_ends {w t : Wd} {k : Nat} : k ∈ endsIn w t ↔ k ≤ t.length ∧ w <:+ t.take k := by
  unfold endsIn
  rw [List.mem_filter, List.mem_range, List.isSuffixOf_iff_suffix]
  exact ⟨fun h => ⟨by omega, h.2⟩, fun h => ⟨by omega, h.2⟩⟩
theorem mem_plc {hs : List (Int × Wd)} {w : Wd} {m : Int} {k : Nat} : (m, k) ∈ plc hs w ↔ ∃ t, (m, t) ∈ hs ∧ k ≤ t.length ∧ w <:+ t.take k := by
  unfold plc
  rw [List.mem_flatMap]
  constructor
  · rintro ⟨⟨n, t⟩, h1, h2⟩
    obtain ⟨j, hj, e⟩ := List.mem_map.mp h2
    have e1 : n = m := congrArg Prod.fst e
    have e2 : j = k := congrArg Prod.snd e
    subst e1 e2
    exact ⟨t, h1, mem_ends.mp hj⟩
  · rintro ⟨t, h1, h2⟩
    exact ⟨(m, t), h1, List.mem_map.mpr ⟨k, mem_ends.mpr h2, rfl⟩⟩
/-- the places' order -/
def plt (p q : Int × Nat) : Prop := p.1 < q.1 ∨ (p.1 = q.1 ∧ p.2 < q.2)
theorem plc_sorted : ∀ {hs : List (Int × Wd)}, (hs.map (·.1)).Pairwise (· < ·) → ∀ w, (plc hs w).Pairwise plt
  | [], _, w => List.Pairwise.nil
  | q :: r, h, w => by
    rw [List.map_cons, List.pairwise_cons] at h
    show ((endsIn w q.2).map (fun k => (q.1, k)) ++ plc r w).Pairwise plt
    rw [List.pairwise_append]
    refine ⟨?_, plc_sorted h.2 w, fun a ha b hb => ?_⟩
    · rw [List.pairwise_map]
      have : (endsIn w q.2).Pairwise (· < ·) := List.Pairwise.filter _ List.pairwise_lt_range
      exact this.imp fun h => .inr ⟨rfl, h⟩
    · obtain ⟨k, _, rfl⟩ := List.mem_map.mp ha
      obtain ⟨m, j⟩ := b
      obtain ⟨t, ht, _⟩ := mem_plc.mp hb
      exact .inl (h.1 m (List.mem_map.mpr ⟨(m, t), ht, rfl⟩))
theorem plt_irr {p : Int × Nat} (h : plt p p) : False := by
  rcases h with h | ⟨_, h⟩ <;> omega
theorem plt_asym {p q : Int × Nat} (h1 : plt p q) (h2 : plt q p) : False := by
  rcases h1 with h1 | ⟨e, h1⟩ <;> rcases h2 with h2 | ⟨e2, h2⟩ <;> omega
theorem nd_plt {l : List (Int × Nat)} (h : l.Pairwise plt) : l.Nodup := by
  refine List.Pairwise.imp ?_ h
  intro a b h e
  rw [e] at h
  exact plt_irr h
/-- a list of the same places, in order, is the list -/
theorem plc_eq {l m : List (Int × Nat)} (h1 : l.Pairwise plt) (h2 : m.Pairwise plt) (h : ∀ q, q ∈ l ↔ q ∈ m) : l = m :=
  List.Perm.eq_of_pairwise (fun a b _ _ h1 h2 => (plt_asym h1 h2).elim) h1 h2 ((List.perm_ext_iff_of_nodup (nd_plt h1) (nd_plt h2)).mpr h)
/-- the texts of a house, the empty one besides -/
def txs (hs : List (Int × Wd)) : List Wd := [] :: hs.map (·.2)
theorem txs_mem {hs : List (Int × Wd)} {m : Int} {t : Wd} (h : (m, t) ∈ hs) : t ∈ txs hs := List.mem_cons_of_mem _ (List.mem_map.mpr ⟨(m, t), h, rfl⟩)
theorem inner_plc {hs : List (Int × Wd)} (ne : hs ≠ []) {w : Wd} : Inner (txs hs) w ↔ ∃ q, q ∈ plc hs w := by
  constructor
  · rintro ⟨t, m, x, y, e⟩
    rcases List.mem_cons.mp m with z | m
    · have : w = [] := inner_nil.mp ⟨t, by rw [z]; simp, x, y, e⟩
      obtain ⟨⟨n, s⟩, hq⟩ := List.exists_mem_of_ne_nil hs ne
      exact ⟨(n, 0), mem_plc.mpr ⟨s, hq, Nat.zero_le _, by rw [this]; exact List.nil_suffix⟩⟩
    · obtain ⟨⟨n, s⟩, hq, rfl⟩ := List.mem_map.mp m
      refine ⟨(n, x.length + w.length), mem_plc.mpr ⟨s, hq, ?_, ?_⟩⟩
      · have := congrArg List.length e
        simp at this
        omega
      · have : s = (x ++ w) ++ y := e
        rw [this, List.take_left' (by simp)]
        exact ⟨x, rfl⟩
  · rintro ⟨⟨m, k⟩, hq⟩
    obtain ⟨t, ht, hk, x, e⟩ := mem_plc.mp hq
    exact ⟨t, txs_mem ht, x, t.drop k, by rw [e, List.take_append_drop]⟩
theorem plc_ext {hs : List (Int × Wd)} {u v : Wd} (h : Ext (LC (txs hs)) u v) : plc hs u = plc hs v := by
  have key : ∀ q ∈ hs, endsIn u q.2 = endsIn v q.2 := fun ⟨m, t⟩ hq => by
    refine List.filter_congr fun k _ => ?_
    refine Bool.eq_iff_iff.mpr ?_
    rw [List.isSuffixOf_iff_suffix, List.isSuffixOf_iff_suffix]
    constructor
    · rintro ⟨x, e⟩
      obtain ⟨x', e'⟩ := h.occ (txs_mem hq) (x := x) (y := t.drop k) (by rw [e, List.take_append_drop])
      refine ⟨x', ?_⟩
      have e2 : t.take k ++ t.drop k = (x' ++ v) ++ t.drop k := by rw [List.take_append_drop]; exact e'
      exact (List.append_inj' e2 rfl).1.symm
    · exact fun s => h.2.1.trans s
  unfold plc
  rw [List.flatMap_def, List.flatMap_def]
  congr 1
  refine List.map_congr_left fun q hq => ?_
  rw [key q hq]
/-- unlike classes end at unlike places -/
theorem plc_inj {hs : List (Int × Wd)} (ne : hs ≠ []) (asc : (hs.map (·.1)).Pairwise (· < ·)) {u v : Wd} (hu : LC (txs hs) u) (hv : LC (txs hs) v) (e : plc hs u = plc hs v) : u = v := by
  have one : ∀ {u v : Wd}, LC (txs hs) u → plc hs u = plc hs v → u <:+ v → u = v := fun {u v} hu e s => by
    refine Classical.byContradiction fun n => ?_
    have uniq : ∀ {m t t'}, (m, t) ∈ hs → (m, t') ∈ hs → t = t' := fun {m t t'} h1 h2 => by
      obtain ⟨i, hi, ei⟩ := List.getElem_of_mem h1
      obtain ⟨j, hj, ej⟩ := List.getElem_of_mem h2
      have nd : (hs.map (·.1)).Nodup := asc.imp fun h e => by rw [e] at h; omega
      have : (hs.map (·.1))[i]? = (hs.map (·.1))[j]? := by
        rw [List.getElem?_map, List.getElem?_map, List.getElem?_eq_getElem hi, List.getElem?_eq_getElem hj, ei, ej]
        rfl
      have := (List.getElem?_inj (by rw [List.length_map]; exact hi) nd).mp this
      subst this
      rw [ei] at ej
      exact congrArg Prod.snd ej
    have tr : ∀ {m t k}, (m, t) ∈ hs → k ≤ t.length → u <:+ t.take k → v <:+ t.take k := fun {m t k} h1 h2 h3 => by
      have := mem_plc.mpr ⟨t, h1, h2, h3⟩
      rw [e] at this
      obtain ⟨t', h4, _, h5⟩ := mem_plc.mp this
      exact uniq h1 h4 ▸ h5
    obtain ⟨d, hd⟩ := suf_cons s n
    have hlen : u.length < v.length := by
      have := hd.length_le
      rw [List.length_cons] at this
      exact this
    -- what stands ahead of u
    have ahead : ∀ a, Inner (txs hs) (a :: u) → a = d := fun a ia => by
      obtain ⟨⟨m, k⟩, hq⟩ := (inner_plc ne).mp ia
      obtain ⟨t, ht, hk, h3⟩ := mem_plc.mp hq
      have h4 := tr ht hk (List.IsSuffix.trans ⟨[a], rfl⟩ h3)
      exact cons_suf_inj h3 (hd.trans h4)
    rcases hu with ⟨t, m, y, et⟩ | ⟨a, b, nab, ha, hb⟩
    · rcases List.mem_cons.mp m with z | m
      · have hu0 : u = [] := by
          rw [z] at et
          have := congrArg List.length et
          simp at this
          exact List.eq_nil_of_length_eq_zero (by omega)
        obtain ⟨⟨k, t'⟩, hq⟩ := List.exists_mem_of_ne_nil hs ne
        have := (tr hq (Nat.zero_le _) (by rw [hu0]; exact List.nil_suffix)).length_le
        rw [List.take_zero, List.length_nil] at this
        omega
      · obtain ⟨⟨k, t'⟩, hq, rfl⟩ := List.mem_map.mp m
        have et : t' = u ++ y := et
        have := (tr (k := u.length) hq (by rw [et]; simp) (by rw [et, List.take_left' rfl]; exact List.suffix_refl _)).length_le
        rw [et, List.take_left' rfl] at this
        omega
    · exact nab ((ahead a ha).trans (ahead b hb).symm)
  obtain ⟨⟨m, k⟩, hq⟩ := (inner_plc ne).mp hu.inner
  obtain ⟨t, ht, hk, h3⟩ := mem_plc.mp hq
  have hq2 := e ▸ hq
  obtain ⟨t', ht', hk', h3'⟩ := mem_plc.mp hq2
  have uniq : t = t' := by
    obtain ⟨i, hi, ei⟩ := List.getElem_of_mem ht
    obtain ⟨j, hj, ej⟩ := List.getElem_of_mem ht'
    have nd : (hs.map (·.1)).Nodup := asc.imp fun h e => by rw [e] at h; omega
    have : (hs.map (·.1))[i]? = (hs.map (·.1))[j]? := by
      rw [List.getElem?_map, List.getElem?_map, List.getElem?_eq_getElem hi, List.getElem?_eq_getElem hj, ei, ej]
      rfl
    have := (List.getElem?_inj (by rw [List.length_map]; exact hi) nd).mp this
    subst this
    rw [ei] at ej
    exact congrArg Prod.snd ej
  subst uniq
  rcases suf_tot h3 h3' with s | s
  · exact one hu e s
  · exact (one hv e.symm s).symm
end Sam
set_option linter.all false
/-! Places gathered along links; classes found word by word. -/
namespace Sam
/-- q is the place where the beginning v of a text ends -/
def dirP (hs : List (Int × Wd)) (v : Wd) (q : Int × Nat) : Prop := ∃ t, (q.1, t) ∈ hs ∧ q.2 ≤ t.length ∧ t.take q.2 = v
structure Row (hs : List (Int × Wd)) (g : G) (rep : Nat → Wd) (i k : Nat) (r : List (Int × Nat)) : Prop where
  nd : r.Nodup
  mem : ∀ q, q ∈ r ↔ dirP hs (rep k) q ∨ ∃ j, i ≤ j ∧ j < g.n ∧ g.lk j = some k ∧ q ∈ plc hs (rep j)
theorem uniq_text {hs : List (Int × Wd)} (asc : (hs.map (·.1)).Pairwise (· < ·)) {m : Int} {t t' : Wd} (h1 : (m, t) ∈ hs) (h2 : (m, t') ∈ hs) : t = t' := by
  obtain ⟨i, hi, ei⟩ := List.getElem_of_mem h1
  obtain ⟨j, hj, ej⟩ := List.getElem_of_mem h2
  have nd : (hs.map (·.1)).Nodup := asc.imp fun h e => by rw [e] at h; omega
  have : (hs.map (·.1))[i]? = (hs.map (·.1))[j]? := by
    rw [List.getElem?_map, List.getElem?_map, List.getElem?_eq_getElem hi, List.getElem?_eq_getElem hj, ei, ej]
    rfl
  have := (List.getElem?_inj (by rw [List.length_map]; exact hi) nd).mp this
  subst this
  rw [ei] at ej
  exact congrArg Prod.snd ej
theorem take_pre {hs : List (Int × Wd)} {m : Int} {t : Wd} (h : (m, t) ∈ hs) (k : Nat) : LC (txs hs) (t.take k) := .inl ⟨t, txs_mem h, t.drop k, (List.take_append_drop k t).symm⟩
section
variable {hs : List (Int × Wd)} {g : G} {rep : Nat → Wd} (asc : (hs.map (·.1)).Pairwise (· < ·)) (F : Fin (txs hs) g rep)
include asc F
theorem plc_tree {k : Nat} (hk : k < g.n) (q : Int × Nat) : q ∈ plc hs (rep k) ↔ dirP hs (rep k) q ∨ ∃ j, j < g.n ∧ g.lk j = some k ∧ q ∈ plc hs (rep j) := by
  obtain ⟨m, st⟩ := q
  constructor
  · intro h
    obtain ⟨t, ht, hst, s⟩ := mem_plc.mp h
    by_cases e : rep k = t.take st
    · exact .inl ⟨t, ht, hst, e.symm⟩
    · right
      obtain ⟨a, ha⟩ := suf_cons s e
      have hx := take_pre ht st
      obtain ⟨v, hv⟩ := (hx.inner.suf ha).ext
      obtain ⟨j, hj, ej⟩ := (F.inv.lc v).mp hv.1
      subst ej
      obtain ⟨x, ex⟩ := ha
      obtain ⟨x', ex'⟩ := hv.occ (txs_mem ht) (x := x) (y := t.drop st) (by rw [ex, List.take_append_drop])
      have sv : rep j <:+ t.take st := ⟨x', (List.append_inj' (show t.take st ++ t.drop st = (x' ++ rep j) ++ t.drop st by rw [List.take_append_drop]; exact ex') rfl).1.symm⟩
      refine ⟨j, hj, (F.inv.lk j hj k).mpr ⟨hk, F.inv.mem hk, List.IsSuffix.trans ⟨[a], rfl⟩ hv.2.1, fun z => ?_, fun y ly h1 h2 => ?_⟩, mem_plc.mpr ⟨t, ht, hst, sv⟩⟩
      · have := hv.2.1.length_le
        rw [← z, List.length_cons] at this
        omega
      · rcases suf_tot h1 hv.2.1 with c | c
        · rcases List.suffix_cons_iff.mp c with z | c
          · exact absurd (hv.2.2 y ly (z ▸ List.suffix_refl _) h1) h2
          · exact c
        · exact absurd (hv.2.2 y ly c h1) h2
  · rintro (⟨t, ht, hst, e⟩ | ⟨j, hj, ej, h⟩)
    · exact mem_plc.mpr ⟨t, ht, hst, e ▸ List.suffix_refl _⟩
    · obtain ⟨t, ht, hst, s⟩ := mem_plc.mp h
      exact mem_plc.mpr ⟨t, ht, hst, (F.inv.dec hj ej).2.2.1.trans s⟩
theorem Row.full {i k : Nat} {r : List (Int × Nat)} (R : Row hs g rep i k r) (hk : k < g.n) (hi : i ≤ k + 1) (q : Int × Nat) : q ∈ r ↔ q ∈ plc hs (rep k) := by
  rw [R.mem, plc_tree asc F hk]
  constructor
  · rintro (h | ⟨j, _, h⟩)
    · exact .inl h
    · exact .inr ⟨j, h⟩
  · rintro (h | ⟨j, hj, e, h⟩)
    · exact .inl h
    · have := F.lk_lt hj e
      exact .inr ⟨j, by omega, hj, e, h⟩
theorem Row.stay {i k : Nat} {r : List (Int × Nat)} (R : Row hs g rep (i + 1) k r) (h : g.lk i ≠ some k) : Row hs g rep i k r := by
  refine ⟨R.nd, fun q => ?_⟩
  rw [R.mem]
  constructor
  · rintro (h | ⟨j, hj, h⟩)
    · exact .inl h
    · exact .inr ⟨j, by omega, h⟩
  · rintro (h1 | ⟨j, hj, h1, h2, h3⟩)
    · exact .inl h1
    · by_cases e : j = i
      · exact absurd (e ▸ h2) h
      · exact .inr ⟨j, by omega, h1, h2, h3⟩
theorem Row.step {i k : Nat} {r s : List (Int × Nat)} (R : Row hs g rep (i + 1) k r) (S : Row hs g rep (i + 1) i s) (hi : i < g.n) (e : g.lk i = some k) : Row hs g rep i k (r ++ s) := by
  have ms := S.full asc F hi (Nat.le_refl _)
  refine ⟨?_, fun q => ?_⟩
  · rw [List.nodup_append]
    refine ⟨R.nd, S.nd, fun a ha b hb z => ?_⟩
    subst z
    obtain ⟨m, st⟩ := a
    have h1 := (ms _).mp hb
    obtain ⟨t, ht, hst, s1⟩ := mem_plc.mp h1
    obtain ⟨hk, hz, sk, nk⟩ := F.inv.dec hi e
    rcases (R.mem _).mp ha with ⟨t', ht', _, e'⟩ | ⟨j, hj, hjn, ej, h2⟩
    · have := uniq_text asc ht ht'
      subst this
      have e' : t.take st = rep k := e'
      rw [e'] at s1
      exact nk (suf_antisymm sk s1)
    · obtain ⟨t', ht', _, s2⟩ := mem_plc.mp h2
      have := uniq_text asc ht ht'
      subst this
      have l1 := ((F.inv.lk i hi k).mp e).2
      have l2 := ((F.inv.lk j hjn k).mp ej).2
      have ne : rep i ≠ rep j := fun z => by have := F.inv.inj i j hi hjn z; omega
      rcases suf_tot s1 s2 with c | c
      · have h3 := l2.2.2.2 _ (F.inv.mem hi) c ne
        exact nk (suf_antisymm sk h3)
      · have h3 := l1.2.2.2 _ (F.inv.mem hjn) c (Ne.symm ne)
        exact l2.2.2.1 (suf_antisymm l2.2.1 h3)
  · rw [List.mem_append, R.mem, ms]
    constructor
    · rintro ((h | ⟨j, hj, h⟩) | h)
      · exact .inl h
      · exact .inr ⟨j, by omega, h⟩
      · exact .inr ⟨i, Nat.le_refl _, hi, e, h⟩
    · rintro (h1 | ⟨j, hj, h1, h2, h3⟩)
      · exact .inl (.inl h1)
      · by_cases z : j = i
        · exact .inr (z ▸ h3)
        · exact .inl (.inr ⟨j, by omega, h1, h2, h3⟩)
omit asc in
theorem Fin.lk_some {i : Nat} (hi : i < g.n) (h0 : i ≠ 0) : ∃ k, g.lk i = some k ∧ k < i := by
  cases e : g.lk i with
  | none => exact absurd (F.inv.inj i 0 hi F.inv.n0 ((F.inv.lk_none hi e).trans F.inv.r0.symm)) h0
  | some k => exact ⟨k, rfl, F.lk_lt hi e⟩
end
/-! classes, word by word -/
structure Cls (hs : List (Int × Wd)) (g : G) (rep : Nat → Wd) (W : List Wd) (m : Nat) (rows : List (Wd × Wd × List (Int × Nat))) : Prop where
  le : rows.length ≤ g.n
  cut : ∀ k, k < g.n → (k < rows.length ↔ mw g rep k ∈ W.take m)
  row : ∀ k, k < rows.length → ∃ lw, rows[k]? = some (mw g rep k, lw, plc hs (rep k)) ∧ Ext (LC (txs hs)) lw (rep k) ∧ lw ∈ W.take m ∧ ∀ w, w ∈ W.take m → Ext (LC (txs hs)) w (rep k) → w <:+ lw
section
variable {hs : List (Int × Wd)} {g : G} {rep : Nat → Wd} {W : List Wd} (ne : hs ≠ []) (asc : (hs.map (·.1)).Pairwise (· < ·)) (F : Fin (txs hs) g rep) (sW : W.Pairwise slx) (mW : ∀ w, w ∈ W ↔ Inner (txs hs) w)
include ne asc F sW mW
omit ne asc sW mW in
theorem cls_start : Cls hs g rep W 0 [] := ⟨Nat.zero_le _, fun k _ => by simp, fun k h => absurd h (Nat.not_lt_zero _)⟩
omit sW mW in
/-- the places of a word tell its class -/
theorem plc_cls {u : Wd} {j k : Nat} (hj : j < g.n) (hk : k < g.n) (h : Ext (LC (txs hs)) u (rep k)) : plc hs (rep j) = plc hs u ↔ j = k := by
  rw [plc_ext h]
  exact ⟨fun e => F.inv.inj j k hj hk (plc_inj ne asc (F.inv.mem hj) (F.inv.mem hk) e), fun e => e ▸ rfl⟩
theorem Cls.step {m : Nat} {rows : List (Wd × Wd × List (Int × Nat))} (C : Cls hs g rep W m rows) {w : Wd} (hw : W[m]? = some w) :
    ∃ k, k < g.n ∧ Ext (LC (txs hs)) w (rep k) ∧ (k < rows.length → Cls hs g rep W (m + 1) (rows.set k (mw g rep k, w, plc hs w))) ∧ (¬ k < rows.length → k = rows.length ∧ mw g rep k = w ∧ Cls hs g rep W (m + 1) (rows ++ [(w, w, plc hs w)])) := by
  obtain ⟨hm, em⟩ := List.getElem?_eq_some_iff.mp hw
  have wm : w ∈ W := List.mem_of_getElem? hw
  obtain ⟨v, hv⟩ := ((mW w).mp wm).ext
  obtain ⟨k, hk, ek⟩ := (F.inv.lc v).mp hv.1
  subst ek
  have tk : W.take (m + 1) = W.take m ++ [w] := by rw [List.take_add_one, hw]; rfl
  have before : ∀ x, x ∈ W → slx x w → x ∈ W.take m := fun x hx h => by
    obtain ⟨i, hi, ei⟩ := List.getElem_of_mem hx
    have : i < m := by
      refine Classical.byContradiction fun n => ?_
      by_cases z : i = m
      · subst z
        rw [← ei, ← em] at h
        exact slx_irr h
      · have := List.pairwise_iff_getElem.mp sW m i hm hi (by omega)
        rw [ei, em] at this
        exact slx_irr (slx_trans h this)
    exact List.mem_take_iff_getElem.mpr ⟨i, by omega, ei⟩
  have after_ : ∀ x, x ∈ W.take m → slx x w := fun x hx => by
    obtain ⟨i, hi, ei⟩ := List.mem_take_iff_getElem.mp hx
    have := List.pairwise_iff_getElem.mp sW i m (by omega) hm (by omega)
    rwa [ei, em] at this
  have mwW : ∀ j, j < g.n → mw g rep j ∈ W := fun j hj => (mW _).mpr (F.inv.mw_ext hj).inner
  have mw_le := F.inv.mw_le hk hv
  have mw_new : ∀ j, j < g.n → (mw g rep j = w ↔ j = k ∧ mw g rep k = w) := fun j hj => by
    constructor
    · intro e
      have h1 := F.inv.mw_ext hj
      rw [e] at h1
      have := F.inv.inj j k hj hk (h1.uniq hv)
      exact ⟨this, this ▸ e⟩
    · rintro ⟨rfl, e⟩
      exact e
  refine ⟨k, hk, hv, fun hlt => ?_, fun hge => ?_⟩
  · have in_ := (C.cut k hk).mp hlt
    have mne : mw g rep k ≠ w := fun e => slx_irr (e ▸ after_ _ in_)
    refine ⟨by rw [List.length_set]; exact C.le, fun j hj => ?_, fun j hj => ?_⟩
    · rw [List.length_set, tk, List.mem_append, List.mem_singleton, C.cut j hj]
      exact ⟨.inl, fun h => h.elim id fun e => absurd ((mw_new j hj).mp e).2 mne⟩
    · rw [List.length_set] at hj
      have hjn : j < g.n := by have := C.le; omega
      by_cases e : j = k
      · subst e
        refine ⟨w, ?_, hv, by rw [tk]; simp, fun x hx ex => ?_⟩
        · rw [List.getElem?_set_self hj, plc_ext hv]
        · rw [tk] at hx
          rcases List.mem_append.mp hx with h | h
          · rcases suf_tot ex.2.1 hv.2.1 with c | c
            · exact c
            · have h1 := c.length_le
              rcases after_ x h with q | ⟨q, _⟩
              · omega
              · exact (c.eq_of_length q.symm) ▸ List.suffix_refl _
          · rw [List.mem_singleton.mp h]
            exact List.suffix_refl _
      · obtain ⟨lw, h1, h2, h3, h4⟩ := C.row j hj
        refine ⟨lw, by rw [List.getElem?_set_ne (Ne.symm e)]; exact h1, h2, by rw [tk]; exact List.mem_append_left _ h3, fun x hx ex => ?_⟩
        rw [tk] at hx
        rcases List.mem_append.mp hx with h | h
        · exact h4 x h ex
        · rw [List.mem_singleton.mp h] at ex
          exact absurd (F.inv.inj j k hjn hk (ex.uniq hv)) e
  · have nin : mw g rep k ∉ W.take m := fun h => hge ((C.cut k hk).mpr h)
    have e : mw g rep k = w := by
      refine Classical.byContradiction fun n => nin (before _ (mwW k hk) (.inl ?_))
      refine Nat.lt_of_le_of_ne mw_le.length_le fun z => n (mw_le.eq_of_length z)
    have len : k = rows.length := by
      rcases Nat.lt_trichotomy k rows.length with h | h | h
      · exact absurd h hge
      · exact h
      · have h2 := F.so rows.length k h hk
        have hr : rows.length < g.n := by omega
        rw [e] at h2
        have := (C.cut rows.length hr).mpr (before _ (mwW _ hr) h2)
        omega
    refine ⟨len, e, by rw [List.length_append]; show rows.length + 1 ≤ g.n; omega, fun j hj => ?_, fun j hj => ?_⟩
    · rw [List.length_append, tk, List.mem_append, List.mem_singleton, ← C.cut j hj, mw_new j hj]
      show j < rows.length + 1 ↔ _
      constructor
      · intro h
        by_cases z : j < rows.length
        · exact .inl z
        · exact .inr ⟨by omega, e⟩
      · rintro (h | ⟨h, _⟩) <;> omega
    · rw [List.length_append] at hj
      have hj2 : j < rows.length + 1 := hj
      by_cases z : j < rows.length
      · obtain ⟨lw, h1, h2, h3, h4⟩ := C.row j z
        have hjn : j < g.n := by omega
        refine ⟨lw, by rw [List.getElem?_append_left z]; exact h1, h2, by rw [tk]; exact List.mem_append_left _ h3, fun x hx ex => ?_⟩
        rw [tk] at hx
        rcases List.mem_append.mp hx with h | h
        · exact h4 x h ex
        · rw [List.mem_singleton.mp h] at ex
          have := F.inv.inj j k hjn hk (ex.uniq hv)
          omega
      · have jk : j = k := by omega
        subst jk
        refine ⟨w, ?_, hv, by rw [tk]; simp, fun x hx ex => ?_⟩
        · rw [List.getElem?_append_right (by omega), len]
          have : rows.length - rows.length = 0 := by omega
          rw [this, ← len, e, plc_ext hv]
          rfl
        · rw [tk] at hx
          rcases List.mem_append.mp hx with h | h
          · have := F.inv.mw_le hk ex
            rw [e] at this
            rcases after_ x h with q | ⟨q, _⟩
            · have := this.length_le; omega
            · exact (this.eq_of_length q.symm) ▸ List.suffix_refl _
          · rw [List.mem_singleton.mp h]
            exact List.suffix_refl _
/-- all words gone through -/
theorem Cls.done {rows : List (Wd × Wd × List (Int × Nat))} (C : Cls hs g rep W W.length rows) : rows = (List.range g.n).map fun k => (mw g rep k, rep k, plc hs (rep k)) := by
  have tk : W.take W.length = W := List.take_length
  have len : rows.length = g.n := by
    refine Nat.le_antisymm C.le ?_
    refine Classical.byContradiction fun n => ?_
    have h : rows.length < g.n := by omega
    have := (C.cut rows.length h).mpr (by rw [tk]; exact (mW _).mpr (F.inv.mw_ext h).inner)
    omega
  refine List.ext_getElem? fun k => ?_
  by_cases hk : k < g.n
  · obtain ⟨lw, h1, h2, h3, h4⟩ := C.row k (by omega)
    have := h4 (rep k) (by rw [tk]; exact (mW _).mpr (F.inv.mem hk).inner) (.self (F.inv.mem hk))
    have e := suf_antisymm this h2.2.1
    rw [h1, ← e, List.getElem?_map, List.getElem?_range hk]
    rfl
  · rw [List.getElem?_eq_none (by omega), List.getElem?_eq_none (by rw [List.length_map, List.length_range]; omega)]
end
/-- the link, found by the words -/
theorem Fin.link_word {D : List Wd} {g : G} {rep : Nat → Wd} (F : Fin D g rep) {i k : Nat} (hi : i < g.n) (e : g.lk i = some k) : (mw g rep i).drop 1 = rep k := by
  obtain ⟨hk, hz, s, n⟩ := F.inv.dec hi e
  have hl := F.inv.mw_len hi
  have h2 : leastSz g i = g.sz k + 1 := by unfold leastSz; rw [e]
  have h3 := F.inv.sz k hk
  have s1 : (mw g rep i).drop 1 <:+ rep i := (List.drop_suffix _ _).trans (List.drop_suffix _ _)
  have h4 : ((mw g rep i).drop 1).length = (rep k).length := by rw [List.length_drop]; omega
  exact (suf_of s1 s (by omega)).eq_of_length h4
end Sam
set_option linter.all false
/-! there are such classes, for any texts -/
namespace Sam
theorem inv_letters {D : List Wd} : ∀ (r p : Wd) {g : G} {rep : Nat → Wd} {s : Nat}, Inv (LC (D ++ [p])) g rep → s < g.n → rep s = p → ∃ g' rep', Inv (LC (D ++ [p ++ r])) g' rep'
  | [], p, g, rep, _, I, _, _ => ⟨g, rep, by rw [List.append_nil]; exact I⟩
  | c :: r, p, _, _, _, I, hs, e => by
    obtain ⟨rep2, I2, n2, w2, _, _⟩ := after_ok I (grow_of D p c) hs e
    obtain ⟨g', rep', h⟩ := inv_letters r (p ++ [c]) I2 n2 w2
    exact ⟨g', rep', by rw [List.append_assoc] at h; exact h⟩
theorem inv_texts : ∀ (ts D : List Wd) {g : G} {rep : Nat → Wd}, D ≠ [] → Inv (LC D) g rep → ∃ g' rep', Inv (LC (D ++ ts)) g' rep'
  | [], D, g, rep, _, I => ⟨g, rep, by rw [List.append_nil]; exact I⟩
  | t :: ts, D, _, _, h, I => by
    have I0 := I
    rw [← lc_text h] at I0
    obtain ⟨g1, r1, I1⟩ := inv_letters t [] I0 I0.n0 I0.r0
    rw [List.nil_append] at I1
    obtain ⟨g2, r2, I2⟩ := inv_texts ts (D ++ [t]) (by simp) I1
    exact ⟨g2, r2, by rw [List.append_assoc] at I2; exact I2⟩
theorem inv_ex (hs : List (Int × Wd)) : ∃ g rep, Inv (LC (txs hs)) g rep := by
  have h := inv_texts (hs.map fun q => q.2) [[]] (by simp) inv_start
  exact h
theorem fin_ex (hs : List (Int × Wd)) : ∃ g rep, Fin (txs hs) g rep := by
  obtain ⟨g, rep, I⟩ := inv_ex hs
  let le : Nat → Nat → Bool := fun a b => @decide (¬ slx (mw g rep b) (mw g rep a)) (Classical.propDecidable _)
  have led : ∀ a b, le a b = true ↔ ¬ slx (mw g rep b) (mw g rep a) := fun a b => @decide_eq_true_iff _ (Classical.propDecidable _)
  have srt := List.pairwise_mergeSort (le := le) (fun a b c h1 h2 => by
    rw [led] at h1 h2 ⊢
    intro h3
    rcases slx_tot (mw g rep b) (mw g rep c) with h | h | h
    · exact h1 (slx_trans h h3)
    · exact h1 (h ▸ h3)
    · exact h2 h) (fun a b => by
    rw [Bool.or_eq_true, led, led]
    rcases slx_tot (mw g rep a) (mw g rep b) with h | h | h
    · exact .inl fun z => slx_irr (slx_trans h z)
    · exact .inl fun z => slx_irr (h ▸ z)
    · exact .inr fun z => slx_irr (slx_trans h z)) (List.range g.n)
  have pm := List.mergeSort_perm (List.range g.n) le
  generalize (List.range g.n).mergeSort le = os at srt pm
  have nd : os.Nodup := pm.nodup_iff.mpr List.nodup_range
  have lt : ∀ x ∈ os, x < g.n := fun x hx => List.mem_range.mp (pm.mem_iff.mp hx)
  have full : ∀ x, x < g.n → x ∈ os := fun x hx => pm.mem_iff.mpr (List.mem_range.mpr hx)
  have so : os.Pairwise (fun a b => slx (mw g rep a) (mw g rep b)) := by
    refine List.Pairwise.imp_of_mem (fun {a b} ha hb h => ?_) (srt.and nd)
    obtain ⟨h1, h2⟩ := h
    rw [led] at h1
    rcases slx_tot (mw g rep a) (mw g rep b) with h | h | h
    · exact h
    · exact absurd (I.mw_inj (lt a ha) (lt b hb) h) h2
    · exact absurd h h1
  have h0 : os.getD 0 0 = 0 := by
    cases e : os with
    | nil => rfl
    | cons x r =>
      show x = 0
      have m0 := full 0 I.n0
      rw [e] at m0 so
      rcases List.mem_cons.mp m0 with z | z
      · exact z.symm
      · have := (List.pairwise_cons.mp so).1 0 z
        rw [I.mw_zero] at this
        rcases this with q | ⟨_, q⟩
        · exact absurd q (Nat.not_lt_zero _)
        · exact absurd q (List.not_lt_nil _)
  refine ⟨_, _, I.reorder nd lt full h0, fun i j hij hj => ?_⟩
  have hj : j < g.n := hj
  have hl := re_len nd lt full
  rw [I.re_mw nd lt full (by omega), I.re_mw nd lt full hj]
  have h1 : i < os.length := by omega
  have h2 : j < os.length := by omega
  have := List.pairwise_iff_getElem.mp so i j h1 h2 hij
  rw [List.getD_eq_getElem?_getD, List.getD_eq_getElem?_getD, List.getElem?_eq_getElem h1, List.getElem?_eq_getElem h2]
  exact this
end Sam
set_option linter.all false
/-! there is one way to number the classes -/
namespace Sam
def Mw (D : List Wd) (w : Wd) : Prop := ∃ v, Ext (LC D) w v ∧ ∀ u, Ext (LC D) u v → w <:+ u
theorem Fin.mw_iff {D : List Wd} {g : G} {rep : Nat → Wd} (F : Fin D g rep) (w : Wd) : w ∈ (List.range g.n).map (mw g rep) ↔ Mw D w := by
  constructor
  · intro h
    obtain ⟨k, hk, rfl⟩ := List.mem_map.mp h
    have hk := List.mem_range.mp hk
    exact ⟨rep k, F.inv.mw_ext hk, fun u hu => F.inv.mw_le hk hu⟩
  · rintro ⟨v, h1, h2⟩
    obtain ⟨k, hk, rfl⟩ := (F.inv.lc v).mp h1.1
    exact List.mem_map.mpr ⟨k, List.mem_range.mpr hk, suf_antisymm (F.inv.mw_le hk h1) (h2 _ (F.inv.mw_ext hk))⟩
theorem Fin.sorted {D : List Wd} {g : G} {rep : Nat → Wd} (F : Fin D g rep) : ((List.range g.n).map (mw g rep)).Pairwise slx := by
  rw [List.pairwise_iff_getElem]
  intro i j hi hj h
  rw [List.length_map, List.length_range] at hi hj
  rw [List.getElem_map, List.getElem_map, List.getElem_range, List.getElem_range]
  exact F.so i j h hj
theorem slx_nd {l : List Wd} (h : l.Pairwise slx) : l.Nodup := by
  refine List.Pairwise.imp ?_ h
  intro a b h e
  rw [e] at h
  exact slx_irr h
theorem slx_eq {l m : List Wd} (h1 : l.Pairwise slx) (h2 : m.Pairwise slx) (h : ∀ q, q ∈ l ↔ q ∈ m) : l = m :=
  List.Perm.eq_of_pairwise (fun a b _ _ h1 h2 => (slx_irr (slx_trans h1 h2)).elim) h1 h2 ((List.perm_ext_iff_of_nodup (slx_nd h1) (slx_nd h2)).mpr h)
structure SameG (g : G) (rep : Nat → Wd) (g' : G) (rep' : Nat → Wd) : Prop where
  n : g.n = g'.n
  mw : ∀ k, k < g.n → mw g rep k = mw g' rep' k
  rep : ∀ k, k < g.n → rep k = rep' k
  ed : ∀ k, k < g.n → ∀ c, g.ed k c = g'.ed k c
  lk : ∀ k, k < g.n → g.lk k = g'.lk k
theorem opt_iff {a b : Option Nat} (h : ∀ j, a = some j ↔ b = some j) : a = b := by
  cases a with
  | none =>
    cases b with
    | none => rfl
    | some j => exact absurd ((h j).mpr rfl) (by simp)
  | some i => exact ((h i).mp rfl).symm
theorem Fin.uniq {D : List Wd} {g g' : G} {rep rep' : Nat → Wd} (F : Fin D g rep) (F' : Fin D g' rep') : SameG g rep g' rep' := by
  have e := slx_eq F.sorted F'.sorted fun w => (F.mw_iff w).trans (F'.mw_iff w).symm
  have hn : g.n = g'.n := by
    have := congrArg List.length e
    simpa using this
  have hm : ∀ k, k < g.n → Sam.mw g rep k = Sam.mw g' rep' k := fun k hk => by
    have := congrArg (fun l => l[k]?) e
    simp only [List.getElem?_map, List.getElem?_range hk, List.getElem?_range (hn ▸ hk)] at this
    exact Option.some.inj this
  have hr : ∀ k, k < g.n → rep k = rep' k := fun k hk => by
    have h1 := F.inv.mw_ext hk
    have h2 := F'.inv.mw_ext (hn ▸ hk)
    rw [← hm k hk] at h2
    exact h1.uniq h2
  refine ⟨hn, hm, hr, fun k hk c => opt_iff fun j => ?_, fun k hk => opt_iff fun j => ?_⟩
  · rw [F.inv.ed k hk, F'.inv.ed k (hn ▸ hk), ← hn, ← hr k hk]
    constructor
    · rintro ⟨h1, h2⟩
      exact ⟨h1, hr j h1 ▸ h2⟩
    · rintro ⟨h1, h2⟩
      exact ⟨h1, by rw [hr j h1]; exact h2⟩
  · rw [F.inv.lk k hk, F'.inv.lk k (hn ▸ hk), ← hn, ← hr k hk]
    constructor
    · rintro ⟨h1, h2⟩
      exact ⟨h1, hr j h1 ▸ h2⟩
    · rintro ⟨h1, h2⟩
      exact ⟨h1, by rw [hr j h1]; exact h2⟩
end Sam
set_option Elab.async false
set_option linter.all false
set_option maxRecDepth 100000
set_option maxHeartbeats 4000000
/-! the longest, of several the first -/
namespace SH
open PySem PySem.Spec PyProof.Rows L2
/-- y is not ahead of z: shorter, or as long and not less -/
def leLng (z y : Str) : Prop := y.length < z.length ∨ (y.length = z.length ∧ z.cps.toList ≤ y.cps.toList)
def IsLong (p : Str → Prop) : Option Str → Prop
  | none => ∀ z, p z → z = Str.empty
  | some z => p z ∧ z ≠ Str.empty ∧ ∀ y, p y → leLng z y
theorem leLng_anti {x y : Str} (h1 : leLng x y) (h2 : leLng y x) : x = y := by
  rcases h1 with a | ⟨a, b⟩ <;> rcases h2 with c | ⟨c, d⟩
  · omega
  · omega
  · omega
  · exact str_ext (List.le_antisymm b d)
theorem isLong_uniq {p : Str → Prop} : ∀ {a b : Option Str}, IsLong p a → IsLong p b → a = b
  | none, none, _, _ => rfl
  | none, some z, h, k => absurd (h z k.1) k.2.1
  | some z, none, h, k => absurd (k z h.1) h.2.1
  | some z, some y, h, k => by rw [leLng_anti (h.2.2 y k.1) (k.2.2 z h.1)]
theorem isLong_cong {p q : Str → Prop} (e : ∀ z, p z ↔ q z) : ∀ {a : Option Str}, IsLong p a → IsLong q a
  | none, h => fun z hz => h z ((e z).mpr hz)
  | some z, h => ⟨(e z).mp h.1, h.2.1, fun y hy => h.2.2 y ((e y).mpr hy)⟩
def vO : Option Str → V
  | none => .non
  | some z => .str z
theorem vO_inj : ∀ {a b : Option Str}, vO a = vO b → a = b
  | none, none, _ => rfl
  | some x, some y, h => by rw [V.str.inj h]
  | none, some y, h => by cases h
  | some x, none, h => by cases h
/-- gone through in the order of texts -/
structure LngSo (l : List Str) (b : Str) : Prop where
  le : ∀ y ∈ l, leLng b y
  has : b = Str.empty ∨ b ∈ l
theorem emp_len {z : Str} : z.length = 0 ↔ z = Str.empty := ⟨fun h => tl_inj (List.eq_nil_of_length_eq_zero h), fun h => by rw [h]; rfl⟩
theorem LngSo.nil : LngSo [] Str.empty := ⟨(fun y m => nomatch m), .inl rfl⟩
theorem LngSo.step {l : List Str} {b w : Str} (h : LngSo l b) (asc : ∀ y ∈ l, y.cps.toList ≤ w.cps.toList) : LngSo (l ++ [w]) (if w.length > b.length then w else b) := by
  by_cases c : w.length > b.length
  · rw [if_pos c]
    refine ⟨fun y hy => ?_, .inr (by simp)⟩
    rcases List.mem_append.mp hy with m | m
    · rcases h.le y m with a | ⟨a, _⟩
      · exact .inl (by omega)
      · exact .inl (by omega)
    · rw [List.mem_singleton.mp m]
      exact .inr ⟨rfl, List.le_refl _⟩
  · rw [if_neg c]
    refine ⟨fun y hy => ?_, h.has.imp id fun m => List.mem_append_left _ m⟩
    rcases List.mem_append.mp hy with m | m
    · exact h.le y m
    · rw [List.mem_singleton.mp m]
      rcases Nat.lt_or_ge w.length b.length with d | d
      · exact .inl d
      · refine .inr ⟨by omega, ?_⟩
        rcases h.has with e | m2
        · have : w = Str.empty := emp_len.mp (by rw [e] at c; have : (Str.empty).length = 0 := rfl; omega)
          rw [e, this]
          exact List.le_refl _
        · exact asc b m2
theorem LngSo.done {l : List Str} {b : Str} (h : LngSo l b) : IsLong (· ∈ l) (if b = Str.empty then none else some b) := by
  by_cases c : b = Str.empty
  · rw [if_pos c]
    intro z hz
    have := h.le z hz
    rw [c] at this
    rcases this with a | ⟨a, _⟩
    · exact absurd a (Nat.not_lt_zero _)
    · exact emp_len.mp a
  · rw [if_neg c]
    exact ⟨h.has.resolve_left c, c, h.le⟩
/-! ### pairs of a size below 0 and a text -/
def eNeg (z : Str) : PyData := .tuple [.int (-(z.length : Int)), .str z]
theorem eNeg_lt (x y : Str) : PySem.W.dataLt (eNeg x) (eNeg y) = decide (y.length < x.length ∨ (x.length = y.length ∧ x.cps.toList < y.cps.toList)) := by
  unfold eNeg
  rw [PySem.W.dataLt_tuple, PySem.W.dataLt_cons (by simp [PySem.W.alike]), PySem.W.dataLt_cons (by simp [PySem.W.alike])]
  have e : PyProof.Rows.lexLt itemOrd (PySem.W.keyToksAll []) (PySem.W.keyToksAll []) = false := lex_irrefl _
  rw [e, eqv_int, eqv_str, PySem.W.dataLt_int, PySem.W.dataLt_str]
  by_cases a : x.length = y.length
  · have a2 : (-(x.length : Int)) = -(y.length : Int) := by omega
    by_cases b : x = y
    · rw [decide_eq_true a2, decide_eq_true b]
      symm
      refine decide_eq_false ?_
      rintro (h | ⟨_, h⟩)
      · omega
      · rw [b] at h
        exact List.lt_irrefl _ h
    · rw [decide_eq_true a2, decide_eq_false b]
      show decide (x.cps.toList < y.cps.toList) = _
      exact decide_eq_decide.mpr ⟨fun h => .inr ⟨a, h⟩, fun h => h.elim (fun h => by omega) fun h => h.2⟩
  · have a2 : ¬ (-(x.length : Int)) = -(y.length : Int) := by omega
    rw [decide_eq_false a2]
    show decide (-(x.length : Int) < -(y.length : Int)) = _
    exact decide_eq_decide.mpr ⟨fun h => .inl (by omega), fun h => h.elim (fun h => by omega) fun h => absurd h.1 a⟩
theorem eNeg_le {x y : Str} : PySem.W.dataLe false eNeg x y = true ↔ leLng x y := by
  show (!PySem.W.dataLt (eNeg y) (eNeg x)) = true ↔ _
  rw [eNeg_lt]
  constructor
  · intro h
    have h : ¬ (x.length < y.length ∨ (y.length = x.length ∧ y.cps.toList < x.cps.toList)) := fun z => by rw [decide_eq_true z] at h; cases h
    rcases Nat.lt_trichotomy x.length y.length with c | c | c
    · exact absurd (.inl c) h
    · exact .inr ⟨c.symm, List.not_lt.mp fun z => h (.inr ⟨c.symm, z⟩)⟩
    · exact .inl c
  · intro h
    rw [decide_eq_false]
    · rfl
    · rintro (a | ⟨a, b⟩) <;> rcases h with c | ⟨c, d⟩
      · omega
      · omega
      · omega
      · exact absurd b (List.not_lt.mpr d)
theorem leLng_tr {x y z : Str} (h : leLng x y) (k : leLng y z) : leLng x z := by
  rcases h with a | ⟨a, b⟩ <;> rcases k with c | ⟨c, d⟩
  · exact .inl (by omega)
  · exact .inl (by omega)
  · exact .inl (by omega)
  · exact .inr ⟨by omega, List.le_trans b d⟩
theorem leLng_tot (x y : Str) : leLng x y ∨ leLng y x := by
  rcases Nat.lt_trichotomy x.length y.length with c | c | c
  · exact .inr (.inl c)
  · rcases List.le_total x.cps.toList y.cps.toList with d | d
    · exact .inl (.inr ⟨c.symm, d⟩)
    · exact .inr (.inr ⟨c, d⟩)
  · exact .inl (.inl c)
theorem leLng_refl (x : Str) : leLng x x := .inr ⟨rfl, List.le_refl _⟩
theorem eNeg_sort (l : List Str) : (l.mergeSort (PySem.W.dataLe false eNeg)).Pairwise leLng := by
  refine (List.pairwise_mergeSort (le := PySem.W.dataLe false eNeg) (fun x y z a b => eNeg_le.mpr (leLng_tr (eNeg_le.mp a) (eNeg_le.mp b))) (fun x y => ?_) l).imp fun h => eNeg_le.mp h
  rcases leLng_tot x y with h | h
  · rw [eNeg_le.mpr h]; rfl
  · rw [eNeg_le.mpr h, Bool.or_true]
theorem first_long {l : List Str} {z : Str} {r : List Str} (h : l.mergeSort (PySem.W.dataLe false eNeg) = z :: r) (ne : ∀ y ∈ l, y ≠ Str.empty) : IsLong (· ∈ l) (some z) := by
  have pm := List.mergeSort_perm l (PySem.W.dataLe false eNeg)
  have pw := eNeg_sort l
  rw [h] at pm pw
  have zm : z ∈ l := pm.mem_iff.mp (List.mem_cons_self ..)
  refine ⟨zm, ne z zm, fun y hy => ?_⟩
  rcases List.mem_cons.mp (pm.mem_iff.mpr hy) with e | m
  · rw [e]
    exact leLng_refl _
  · exact (List.pairwise_cons.mp pw).1 y m
/-! ### classes -/
def cntO (h : List (Int × Str)) (z : Str) : Nat := ((occ h).filter fun o => decide (o.1 = z)).length
def hsT (h : List (Int × Str)) : List (Int × Sam.Wd) := h.map fun q => (q.1, TL.tl q.2)
theorem stands_ends {w : Str} {z : Str} (s : Nat) (hs : s ≤ z.length) : standsP w z s = true ↔ s + w.length ∈ Sam.endsIn (TL.tl w) (TL.tl z) := by
  rw [Sam.mem_ends]
  have zl : (TL.tl z).length = z.length := rfl
  have wl : (TL.tl w).length = w.length := rfl
  constructor
  · intro h
    have h1 := stands_le h hs
    have e := of_decide_eq_true h
    refine ⟨by omega, (TL.tl z).take s, ?_⟩
    rw [List.take_add, e]
  · rintro ⟨h1, p, e⟩
    refine decide_eq_true ?_
    rw [List.take_add] at e
    have l1 := congrArg List.length e
    rw [List.length_append, List.length_append, List.length_take, List.length_take, List.length_drop] at l1
    have := (List.append_inj' e (by rw [List.length_take, List.length_drop]; omega)).2
    exact this.symm
theorem endsS_len (w : Str) (z : Str) : (Sam.endsIn (TL.tl w) (TL.tl z)).length = ((List.range (z.length + 1)).filter (standsP w z)).length := by
  have nd1 : ((List.range (z.length + 1)).filter (standsP w z)).Nodup := List.nodup_range.filter _
  have nd2 : (Sam.endsIn (TL.tl w) (TL.tl z)).Nodup := List.nodup_range.filter _
  have wl : (TL.tl w).length = w.length := rfl
  have zl : (TL.tl z).length = z.length := rfl
  rw [← List.length_map (f := fun s => s + w.length) (as := (List.range (z.length + 1)).filter (standsP w z))]
  refine Sam.nd_same nd2 ?_ fun k => ?_
  · rw [List.Nodup, List.pairwise_map]
    exact nd1.imp fun n e => n (by omega)
  · rw [List.mem_map]
    constructor
    · intro hk
      obtain ⟨h1, h2⟩ := Sam.mem_ends.mp hk
      have h3 := h2.length_le
      rw [List.length_take] at h3
      have e : k - w.length + w.length = k := by omega
      refine ⟨k - w.length, List.mem_filter.mpr ⟨List.mem_range.mpr (by omega), (stands_ends _ (by omega)).mpr (by rw [e]; exact hk)⟩, e⟩
    · rintro ⟨s, hs, rfl⟩
      obtain ⟨h1, h2⟩ := List.mem_filter.mp hs
      have := List.mem_range.mp h1
      exact (stands_ends s (by omega)).mp h2
theorem plc_same (w : Str) : ∀ h : List (Int × Str), (Sam.plc (hsT h) (TL.tl w)).length = (plc h w).length
  | [] => rfl
  | q :: r => by
    have ih := plc_same w r
    have e1 : Sam.plc (hsT (q :: r)) (TL.tl w) = (Sam.endsIn (TL.tl w) (TL.tl q.2)).map (fun k => (q.1, k)) ++ Sam.plc (hsT r) (TL.tl w) := rfl
    have e2 : plc (q :: r) w = plcOf w q ++ plc r w := rfl
    rw [e1, e2, List.length_append, List.length_append, ih, List.length_map, endsS_len]
    unfold plcOf
    rw [List.length_map]
theorem cntO_plc {h : List (Int × Str)} {z : Str} (hz : 0 < z.length) : cntO h z = (Sam.plc (hsT h) (TL.tl z)).length := by
  unfold cntO
  rw [occ_cnt hz, plc_same]
/-- what counts for a place's list: how many, or of how many texts -/
theorem occ_iff {h : List (Int × Str)} {z : Str} : z ∈ (occ h).map (·.1) ↔ 0 < z.length ∧ 0 < cntO h z := by
  constructor
  · intro m
    refine ⟨occ_pos m, ?_⟩
    obtain ⟨o, ho, rfl⟩ := List.mem_map.mp m
    unfold cntO
    exact List.length_pos_of_mem (List.mem_filter.mpr ⟨ho, decide_eq_true rfl⟩)
  · rintro ⟨_, h⟩
    unfold cntO at h
    obtain ⟨o, ho⟩ := List.exists_mem_of_length_pos h
    obtain ⟨h1, h2⟩ := List.mem_filter.mp ho
    exact List.mem_map.mpr ⟨o, h1, of_decide_eq_true h2⟩
/-- by the longest words of the classes -/
theorem long_reps {h : List (Int × Str)} (ne : h ≠ []) {g : Sam.G} {rep : Nat → Sam.Wd} (F : Sam.Fin (Sam.txs (hsT h)) g rep) (ok : List (Int × Nat) → Prop) (ok0 : ¬ ok []) {zs : List Str} (hzs : ∀ z, z ∈ zs ↔ ∃ k, k < g.n ∧ ok (Sam.plc (hsT h) (rep k)) ∧ TL.tl z = rep k) :
    ∀ {r : Option Str}, IsLong (· ∈ zs) r → IsLong (fun z => z ∈ (occ h).map (·.1) ∧ ok (Sam.plc (hsT h) (TL.tl z))) r := by
  have ne2 : hsT h ≠ [] := fun e => ne (List.map_eq_nil_iff.mp e)
  have up : ∀ z, (z ∈ (occ h).map (·.1) ∧ ok (Sam.plc (hsT h) (TL.tl z))) → ∃ v ∈ zs, TL.tl z <:+ TL.tl v := fun z hz => by
    obtain ⟨m, hk⟩ := hz
    obtain ⟨p1, p2⟩ := occ_iff.mp m
    rw [cntO_plc p1] at p2
    obtain ⟨q, hq⟩ := List.exists_mem_of_length_pos p2
    obtain ⟨v, hv⟩ := Sam.Inner.ext ((Sam.inner_plc ne2).mpr ⟨q, hq⟩)
    obtain ⟨i, hi, e⟩ := (F.inv.lc v).mp hv.1
    have e2 := Sam.plc_ext hv
    refine ⟨SX.S v, (hzs _).mpr ⟨i, hi, ?_, ?_⟩, ?_⟩
    · rw [e, ← e2]
      exact hk
    · rw [e]
    · exact hv.2.1
  have down : ∀ z ∈ zs, z ≠ Str.empty → z ∈ (occ h).map (·.1) ∧ ok (Sam.plc (hsT h) (TL.tl z)) := fun z hz n => by
    obtain ⟨k, hk, hok, e⟩ := (hzs z).mp hz
    have zp : 0 < z.length := Nat.pos_of_ne_zero fun e => n (emp_len.mp e)
    rw [← e] at hok
    refine ⟨occ_iff.mpr ⟨zp, ?_⟩, hok⟩
    rw [cntO_plc zp]
    refine Nat.pos_of_ne_zero fun e0 => ok0 ?_
    rw [List.eq_nil_of_length_eq_zero e0] at hok
    exact hok
  have sl : ∀ {x y : Str}, TL.tl x <:+ TL.tl y → x.length < y.length ∨ x = y := fun {x y} s => by
    rcases Nat.lt_or_ge x.length y.length with c | c
    · exact .inl c
    · exact .inr (tl_inj (s.eq_of_length (Nat.le_antisymm s.length_le c)))
  intro r hr
  cases r with
  | none =>
    intro z hz
    obtain ⟨v, hv, s⟩ := up z hz
    have := hr v hv
    rw [this] at s
    exact emp_len.mp (Nat.le_zero.mp s.length_le)
  | some b =>
    obtain ⟨h1, h2, h3⟩ := hr
    refine ⟨down b h1 h2, h2, fun y hy => ?_⟩
    obtain ⟨v, hv, s⟩ := up y hy
    rcases sl s with c | e
    · rcases h3 v hv with d | ⟨d, _⟩
      · exact .inl (by omega)
      · exact .inl (by omega)
    · rw [e]
      exact h3 v hv
end SH
set_option Elab.async false
set_option linter.all false
set_option maxRecDepth 100000
set_option maxHeartbeats 4000000
/-! zip of two texts: new pairs of their signs -/
namespace SH
open PySem PySem.Spec PyProof.Rows L2
def pairHere (x y : Str) (i : Nat) (H : Hp) (v : V) (H' : Hp) : Prop := ∃ (T : Addr) (c d : Nat), v = .ref T ∧ H T = none ∧ H' = upd H T (.tup [.str ⟨#[c]⟩, .str ⟨#[d]⟩]) ∧ x.cps[i]? = some c ∧ y.cps[i]? = some d
def Itzs (x y : Str) : It := ⟨fun i _ => i < min x.cps.size y.cps.size, fun i H v H' => pairHere x y i H v H', fun i _ => i = min x.cps.size y.cps.size⟩
def zipsAt (x y : Str) (t u : Tok) (z TI TO i1 i2 : Addr) (i : Nat) (h : Heap) : Prop :=
  IsZip h z TI TO .none ∧ IsTupOf2 h TI (.ref i1) (.ref i2) ∧ (∃ p q, IsTupOf2 h TO p q) ∧ h.IsStrIter i1 (strIterType x) x t i ∧ h.IsStrIter i2 (strIterType y) y u i
theorem turn_zips {P : Program} {w : World} {K : PySem.W.Frag} {es : List Expr} {n : Nat} {ps : Pos} {x y : Str} {t u : Tok} {z TI TO i1 i2 : Addr} (D : ZipSep2 z TI TO i1 i2 [i1] [i2]) :
    Turn P w K (.Tuple es n ps) (Itzs x y) [z, TI, TO, i1, i2] z (zipsAt x y t u z TI TO i1 i2) where
  mem := by simp
  obj := fun i h st c hc => by
    obtain ⟨g0, gI, ⟨p, q, gO⟩, ⟨o1, e1, _, d1⟩, ⟨o2, e2, _, d2⟩⟩ := st
    simp only [List.mem_cons, List.not_mem_nil, or_false] at hc
    rcases hc with rfl | rfl | rfl | rfl | rfl
    · exact ⟨_, g0, fun v q => nomatch q⟩
    · exact ⟨_, gI, fun v q => nomatch q⟩
    · exact ⟨_, gO, fun v q => nomatch q⟩
    · exact ⟨o1, e1, fun v q => by rw [d1] at q; cases q⟩
    · exact ⟨o2, e2, fun v q => by rw [d2] at q; cases q⟩
  keep := fun i h h' st k => by
    obtain ⟨g0, gI, ⟨p, q, gO⟩, ⟨o1, e1, r1⟩, ⟨o2, e2, r2⟩⟩ := st
    exact ⟨k z (by simp) _ g0, k TI (by simp) _ gI, ⟨p, q, k TO (by simp) _ gO⟩, ⟨o1, k i1 (by simp) _ e1, r1⟩, ⟨o2, k i2 (by simp) _ e2, r2⟩⟩
  item := by
    intro X hP hw hK hc i pins s σ H E I hf st hg
    subst hP hw hK
    obtain ⟨g0, gI, ⟨p, q, gO⟩, st1, st2⟩ := st
    have hg' : i < min x.cps.size y.cps.size := hg
    have hh : X.A.in1.handled = none := I.ok.hd hc
    refine wpAny_pyNext_zipD2_item D (Draws.text hh i1 x t) (Draws.text hh i2 y u) g0 gI gO st1 st2 (by omega) (by omega) fun v1 v2 h' tk hv1 hv2 z' TO' st1' st2' hT hsz hk => ?_
    obtain ⟨c, a1, hc1, rfl⟩ := hv1
    obtain ⟨d, a2, hd1, rfl⟩ := hv2
    have hzl : z < s.heap.objs.size := Heap.lt_size g0
    refine ⟨_, rfl, wpAny_letOwnedTupleGo_zip (s := { s with heap := h', toks := tk }) z' fun h2 z2 sb => ?_⟩
    have hT2 : IsTupOf2 h2 s.heap.objs.size (.str ⟨#[c]⟩ a1) (.str ⟨#[d]⟩ a2) := (sb.2 _ (Nat.ne_of_gt hzl)).trans hT
    have new : ObjOk X.prog X.w (upd H s.heap.objs.size (.tup [.str ⟨#[c]⟩, .str ⟨#[d]⟩])) h2 s.heap.objs.size (.tup [.str ⟨#[c]⟩, .str ⟨#[d]⟩]) :=
      ⟨by show 2 ≤ sizeLine; decide, [_, _], .cons ⟨_, rfl⟩ (.cons ⟨_, rfl⟩ .nil), ⟨_, hT2, rfl, _, rfl⟩⟩
    have I1 : Inv X pins σ (upd H s.heap.objs.size (.tup [.str ⟨#[c]⟩, .str ⟨#[d]⟩])) { s with heap := h2, toks := tk } :=
      I.turnedNew (t' := tk) (ch := [z, TI, TO, i1, i2]) (fun b o hb e => by
        simp only [List.mem_cons, List.not_mem_nil, or_false, not_or] at hb
        exact (sb.2 b hb.1).trans (hk b o hb.1 hb.2.2.1 hb.2.2.2.1 hb.2.2.2.2 e)) hf (Nat.le_refl _) new
    refine ⟨.ref s.heap.objs.size, _, I1, rfl, ⟨_, c, d, rfl, I.hok.fresh (Nat.le_refl _), rfl, hc1, hd1⟩, ⟨z2, ?_, ⟨.str ⟨#[c]⟩ a1, .str ⟨#[d]⟩ a2, ?_⟩, ?_, ?_⟩, fun b hb => ?_⟩
    · exact (sb.2 _ D.TIz).trans (hk _ _ D.TIz D.TITO D.TIi1 D.TIi2 gI)
    · exact (sb.2 _ D.TOz).trans TO'
    · obtain ⟨o, e, r⟩ := st1'
      exact ⟨o, (sb.2 _ (Ne.symm D.zi1)).trans e, r⟩
    · obtain ⟨o, e, r⟩ := st2'
      exact ⟨o, (sb.2 _ (Ne.symm D.zi2)).trans e, r⟩
    · have hlt : b < s.heap.objs.size := by
        simp only [List.mem_cons, List.not_mem_nil, or_false] at hb
        rcases hb with rfl | rfl | rfl | rfl | rfl
        · exact hzl
        · exact Heap.lt_size gI
        · exact Heap.lt_size gO
        · obtain ⟨_, e, _⟩ := st1; exact Heap.lt_size e
        · obtain ⟨_, e, _⟩ := st2; exact Heap.lt_size e
      rw [upd_ne (Nat.ne_of_lt hlt)]
      exact (hf b hb).1
  done := by
    intro X hP hw hK hc i pins s σ H E I hf st hg
    subst hP hw hK
    obtain ⟨g0, gI, ⟨p, q, gO⟩, st1, st2⟩ := st
    have hg' : i = min x.cps.size y.cps.size := hg
    have hh : X.A.in1.handled = none := I.ok.hd hc
    exact wpAny_pyNext_zipD2_end D (Draws.text hh i1 x t) (Draws.text hh i2 y u) g0 gI gO st1 st2 (by omega) (by omega) (by omega) fun h' tk hk => ⟨rfl, I.turnedL (t' := tk) (ch := [z, TI, TO, i1, i2]) (fun b o hb e => by
      simp only [List.mem_cons, List.not_mem_nil, or_false, not_or] at hb
      exact hk b o hb.1 hb.2.2.1 hb.2.2.2.1 hb.2.2.2.2 e) hf⟩
  self := fun A i s Q E st h => wpAny_pyIter_zip st.1 h
def iZipS (ta : TA) : TI := fun σ H R => ta σ H fun vs H1 => ∃ x y, vs = [.str x, .str y] ∧ R (Itzs x y) H1
theorem pi_zipS {X : Cx} {e e2 : Expr} {ta : TA} {p pos ps : Pos} {es : List Expr} {n : Nat} (hg : Gl X "zip") (hm : X.mg "zip" = none) (ha : PA X [e, e2] ta)
    (hs : starEach [e, e2] X.env = (false, eval e X.env) :: starEach [e2] X.env := by rfl) (hpl : (backTo pos (starEach [e2] X.env)).any (·.1) = false := by rfl) :
    PI X (.Tuple es n ps) (.Call (.Name "zip" p) [e, e2] [] pos) (iZipS ta) := by
  refine ⟨fun pins s σ H R I h => ?_⟩
  refine Call_ (ld_blt I hg hm PyProof.Rows.boot_zip (PyProof.Rows.callWith_type1 (thn (ha.run pos pins s σ H _ I h) fun us s1 ⟨vs, H1, I1, r1, q1⟩ => ?_) hs hpl))
  obtain ⟨x, y, ex, q⟩ := q1
  subst ex
  obtain ⟨v1, v2, rfl, ⟨t1, rfl⟩, ⟨t2, rfl⟩⟩ := vals2 r1
  refine zip_begins2 (begins_text x t1) (begins_text y t2) trivial trivial fun h' g0 gI gO g1 g2 hsz hk => wpAny_pyIter_zip g0 ?_
  have I2 : Inv X pins σ H1 { s1 with heap := h' } := I1.kept (t' := s1.toks) hk
  refine ⟨s1.heap.objs.size + 4, [s1.heap.objs.size + 4, s1.heap.objs.size + 2, s1.heap.objs.size + 3, s1.heap.objs.size, s1.heap.objs.size + 1], _, _, H1, rfl, I2,
    turn_zips (t := t1) (u := t2) (zip_sep2 (fp1 := []) (fp2 := []) (fun _ h => nomatch h) fun _ h => nomatch h), ⟨g0, gI, ⟨_, _, gO⟩, ⟨_, g1, rfl, rfl⟩, ⟨_, g2, rfl, rfl⟩⟩, fun b hb => ?_, q⟩
  have hle : s1.heap.objs.size ≤ b := by
    simp only [List.mem_cons, List.not_mem_nil, or_false] at hb
    rcases hb with rfl | rfl | rfl | rfl | rfl
    · exact Nat.le_add_right _ _
    · exact Nat.le_add_right _ _
    · exact Nat.le_add_right _ _
    · exact Nat.le_refl _
    · exact Nat.le_add_right _ _
  exact I1.fpOk hle (I1.hok.fresh hle)
theorem walk_zips {x y : Str} : Walk (Itzs x y) (min x.cps.size y.cps.size) (fun _ => True) (pairHere x y) :=
  ⟨fun _ _ hi _ => hi, fun _ _ => rfl, fun _ _ _ _ _ _ q => q⟩
end SH
set_option Elab.async false
set_option linter.all false
set_option maxRecDepth 100000
set_option maxHeartbeats 4000000
/-! plain scans: pairs of a text and a number, the letters behind a word -/
namespace SH
open PySem PySem.Spec PyProof.Rows L2
abbrev ST := List (Addr × Str × Int)
def strefs (R : ST) : List V := R.map fun q => V.ref q.1
def StA (K : PySem.W.Frag) (H : Hp) (R : ST) : Prop := ∀ q ∈ R, SqT K H q.1 [.str q.2.1, .int q.2.2]
theorem StA.same {K : PySem.W.Frag} {H H' : Hp} {R : ST} (h : StA K H R) (e : Same H H') : StA K H' R := fun q hq => same_tup e (h q hq)
theorem StA.put {K : PySem.W.Frag} {H : Hp} {R : ST} {D : Addr} {l : List V} {o : HO} (h : StA K H R) (hD : H D = some (.lst l)) : StA K (upd H D o) R := fun z m => but_tup (l := l) hD but_upd (h z m)
def eSI (p : Str × Int) : PyData := .tuple [.str p.1, .int p.2]
def dSI (l : List (Str × Int)) : PyData := .list (l.map eSI)
theorem dp_sts {K : PySem.W.Frag} {H : Hp} : ∀ (R : ST), StA K H R → DpAll K H (strefs R) ((R.map (·.2)).map eSI)
  | [], _ => .nil
  | q :: r, h => .cons (.tup (h q (List.mem_cons_self ..)) (.cons (.str _) (.cons (.int _) .nil))) (dp_sts r fun x m => h x (List.mem_cons_of_mem _ m))
theorem dp_st {K : PySem.W.Frag} {H : Hp} {a : Addr} {R : ST} (h : SqL K H a (strefs R)) (hq : StA K H R) : Dp K H (.ref a) (dSI (R.map (·.2))) := .lst h (dp_sts R hq)
theorem okd_SI {l : List (Str × Int)} (h : ∀ p ∈ l, IsLet p.1) : Okd (dSI l) := okd_list (fun d hd => by
    obtain ⟨p, hp, rfl⟩ := List.mem_map.mp hd
    exact lay_all fun d hd => by
      simp only [List.mem_cons, List.not_mem_nil, or_false] at hd
      rcases hd with rfl | rfl
      · exact let_ok (h p hp)
      · rfl) fun d hd => by
    obtain ⟨p, hp, rfl⟩ := List.mem_map.mp hd
    show max 0 (max 0 0) + 1 ≤ 59
    decide
theorem sort_st (R : ST) : ((R.map fun z => (V.ref z.1, z.2)).mergeSort (PySem.W.dataLe false fun z => eSI z.2)).map (·.1) = strefs (R.mergeSort fun p q => PySem.W.dataLe false eSI p.2 q.2) := by
  rw [← List.map_mergeSort (l := R) (f := fun z : Addr × Str × Int => (V.ref z.1, z.2)) (r := fun p q : Addr × Str × Int => PySem.W.dataLe false eSI p.2 q.2) (s := PySem.W.dataLe false fun z : V × Str × Int => eSI z.2) (fun _ _ _ _ => rfl), List.map_map]
  rfl
theorem sort_st_is (R : ST) : (R.mergeSort fun p q => PySem.W.dataLe false eSI p.2 q.2).map (·.2) = (R.map (·.2)).mergeSort (PySem.W.dataLe false eSI) :=
  List.map_mergeSort (l := R) (f := fun z : Addr × Str × Int => z.2) (r := fun p q : Addr × Str × Int => PySem.W.dataLe false eSI p.2 q.2) (s := PySem.W.dataLe false eSI) (fun _ _ _ _ => rfl)
theorem si_alike (bs : List (V × Str × Int)) : PySem.W.AllAlike (bs.map fun b => eSI b.2) := PySem.W.AllAlike.of fun b b' => by simp [eSI, PySem.W.alike, PySem.W.alikeAll]
theorem si_able (bs : List (V × Str × Int)) : PySem.W.Sortable (bs.map fun b => eSI b.2) := PySem.W.Sortable.tuples fun b => ⟨_, _, rfl⟩
/-- the ends with their numbers -/
def endsA (q : Int × Str) : List (Str × Int) := (List.range (q.2.length + 1)).map fun s => (suf q.2 s, q.1)
def endsN (h : List (Int × Str)) : List (Str × Int) := h.flatMap endsA
theorem endsA_len (q : Int × Str) : (endsA q).length = q.2.length + 1 := by unfold endsA; rw [List.length_map, List.length_range]
theorem endsA_at {q : Int × Str} {s : Nat} (h : s < q.2.length + 1) : (endsA q)[s]? = some (suf q.2 s, q.1) := by
  unfold endsA
  rw [List.getElem?_map, List.getElem?_range h]
  rfl
theorem endsN_snoc (h : List (Int × Str)) (q : Int × Str) : endsN (h ++ [q]) = endsN h ++ endsA q := by
  unfold endsN
  rw [List.flatMap_append]
  simp
theorem endsN_len {m : Nat} : ∀ {h : List (Int × Str)}, (∀ q ∈ h, q.2.length ≤ m) → (endsN h).length ≤ h.length * (m + 1)
  | [], _ => Nat.zero_le _
  | q :: r, hq => by
    have ih := endsN_len (h := r) fun x mm => hq x (List.mem_cons_of_mem _ mm)
    have e1 : endsN (q :: r) = endsA q ++ endsN r := rfl
    have h1 := hq q (List.mem_cons_self ..)
    rw [e1, List.length_append, endsA_len, List.length_cons, Nat.succ_mul]
    omega
theorem endsN_let {h : List (Int × Str)} (a : LetAll h) : ∀ p ∈ endsN h, IsLet p.1 := fun p hp => by
  obtain ⟨q, hq, hp⟩ := List.mem_flatMap.mp hp
  obtain ⟨s, _, rfl⟩ := List.mem_map.mp hp
  exact suf_let (a q hq) s
/-! ### the letters behind a word -/
def NL (h : List (Int × Str)) (w : Str) (c : Nat) : Prop := ∃ q ∈ h, ∃ s : Nat, s + w.length < q.2.length ∧ standsP w q.2 s = true ∧ (TL.tl q.2)[s + w.length]? = some c
structure NextL (h : List (Int × Str)) (w : Str) (z : Str) : Prop where
  asc : (TL.tl z).Pairwise (· < ·)
  mem : ∀ c, c ∈ TL.tl z ↔ NL h w c
theorem ascN_uniq {l m : List Nat} (h : l.Pairwise (· < ·)) (k : m.Pairwise (· < ·)) (e : ∀ c, c ∈ l ↔ c ∈ m) : l = m :=
  ((List.perm_ext_iff_of_nodup (h.imp Nat.ne_of_lt) (k.imp Nat.ne_of_lt)).mpr e).eq_of_pairwise (fun a b _ _ x y => absurd x (Nat.not_lt.mpr (Nat.le_of_lt y))) h k
theorem NextL.uniq {h : List (Int × Str)} {w z y : Str} (a : NextL h w z) (b : NextL h w y) : z = y := tl_inj (ascN_uniq a.asc b.asc fun c => (a.mem c).trans (b.mem c).symm)
theorem join_tl (ys : List Str) : TL.tl (Txt.join "" ys) = (ys.map TL.tl).flatten := by
  rw [TL.join_eq, TL.tl_join]
  have : ∀ l : List (List Nat), TL.joinL (TL.tl "") l = l.flatten := fun l => by
    induction l with
    | nil => rfl
    | cons a r ih =>
      cases r with
      | nil => simp [TL.joinL]
      | cons b r =>
        show a ++ (TL.tl "" ++ TL.joinL (TL.tl "") (b :: r)) = _
        rw [ih]
        rfl
  exact this _
theorem join_sgs (cs : List Nat) : TL.tl (Txt.join "" (cs.map sg)) = cs := by
  rw [join_tl, List.map_map]
  induction cs with
  | nil => rfl
  | cons c r ih =>
    rw [List.map_cons, List.flatten_cons, ih]
    rfl
theorem sgs_of : ∀ {l : List Str}, (∀ z ∈ l, ∃ c, z = sg c) → ∃ cs : List Nat, l = cs.map sg
  | [], _ => ⟨[], rfl⟩
  | z :: r, h => by
    obtain ⟨c, rfl⟩ := h z (List.mem_cons_self ..)
    obtain ⟨cs, rfl⟩ := sgs_of fun x m => h x (List.mem_cons_of_mem _ m)
    exact ⟨c :: cs, rfl⟩
theorem sg_inj {c d : Nat} (h : sg c = sg d) : c = d := by
  have := congrArg TL.tl h
  exact List.head_eq_of_cons_eq this
/-- one-letter texts in order, joined -/
theorem next_of {h : List (Int × Str)} {w : Str} {cs : List Nat} (nd : (cs.map sg).Nodup) (pw : (cs.map sg).Pairwise fun x y => x.cps.toList ≤ y.cps.toList) (mem : ∀ c, c ∈ cs ↔ NL h w c) : NextL h w (Txt.join "" (cs.map sg)) := by
  refine ⟨?_, fun c => by rw [join_sgs]; exact mem c⟩
  rw [join_sgs]
  have h1 : cs.Pairwise fun c d => sg c ≠ sg d := by
    have := nd
    rw [List.Nodup, List.pairwise_map] at this
    exact this
  rw [List.pairwise_map] at pw
  refine (h1.and pw).imp fun {c d} hh => ?_
  obtain ⟨n, le⟩ := hh
  have le : [c] ≤ [d] := le
  rcases Nat.lt_trichotomy c d with l | e | g
  · exact l
  · exact absurd (by rw [e]) n
  · exact absurd le (List.not_le.mpr (List.cons_lt_cons_iff.mpr (.inl g)))
/-! ### texts that end with a word -/
def endsP (w z : Str) : Bool := decide (w.length ≤ z.length) && standsP w z (z.length - w.length)
theorem endsw (z w : Str) : Txt.endswith z w = endsP w z := by
  show (decide (0 + w.length ≤ z.length) && PySem.Builtin.Str.subAt z w (z.length - w.length)) = _
  rw [Nat.zero_add, PySem.StrLaws.subAt_eq]
  unfold endsP standsP
  congr 1
  exact Bool.eq_iff_iff.mpr (beq_iff_eq.trans (decide_eq_true_iff).symm)
/-! ### stretches -/
theorem occ_in {h : List (Int × Str)} {z : Str} : z ∈ (occ h).map (·.1) ↔ TL.tl z ≠ [] ∧ ∃ q ∈ h, ∃ x y, TL.tl q.2 = x ++ TL.tl z ++ y := by
  have zl : (TL.tl z).length = z.length := rfl
  rw [occ_iff]
  constructor
  · rintro ⟨h1, h2⟩
    rw [cntO_plc h1, plc_same] at h2
    obtain ⟨o, ho⟩ := List.exists_mem_of_length_pos h2
    obtain ⟨q, hq, ho⟩ := List.mem_flatMap.mp ho
    obtain ⟨_, s, _, hs, st⟩ := mem_plcOf ho
    refine ⟨fun e => by rw [e] at zl; rw [← zl] at h1; exact absurd h1 (Nat.lt_irrefl _), q, hq, (TL.tl q.2).take s, (TL.tl q.2).drop (s + z.length), ?_⟩
    have e := of_decide_eq_true st
    rw [← e, List.append_assoc, ← List.drop_drop, List.take_append_drop, List.take_append_drop]
  · rintro ⟨n, q, hq, x, y, e⟩
    have h1 : 0 < z.length := by
      rw [← zl]
      exact List.length_pos_iff.mpr n
    refine ⟨h1, ?_⟩
    rw [cntO_plc h1, plc_same]
    have ql : (TL.tl q.2).length = q.2.length := rfl
    have l := congrArg List.length e
    rw [List.length_append, List.length_append] at l
    refine List.length_pos_of_mem (a := (q.1, (x.length : Int))) (List.mem_flatMap.mpr ⟨q, hq, ?_⟩)
    unfold plcOf
    refine List.mem_map.mpr ⟨x.length, List.mem_filter.mpr ⟨List.mem_range.mpr (by omega), decide_eq_true ?_⟩, rfl⟩
    rw [e, List.append_assoc, List.drop_left' rfl, List.take_left' zl]
theorem strL_of {O : List Str} {ws : List Sam.Wd} (pw : ws.Pairwise Sam.slx) (mem : ∀ w, w ∈ ws ↔ SX.S w ∈ O) : StrL O (ws.map SX.S) := by
  refine ⟨?_, ?_, fun z => ?_⟩
  · rw [List.Nodup, List.pairwise_map]
    refine pw.imp fun {a b} h e => ?_
    have : a = b := congrArg TL.tl e
    rw [this] at h
    exact Sam.slx_irr h
  · rw [List.pairwise_map]
    refine pw.imp fun {a b} h => ?_
    have la : (SX.S a).length = a.length := by show a.toArray.size = _; rw [List.size_toArray]
    have lb : (SX.S b).length = b.length := by show b.toArray.size = _; rw [List.size_toArray]
    rcases h with h | ⟨h1, h2⟩
    · exact .inl (by rw [la, lb]; exact h)
    · exact .inr ⟨by rw [la, lb]; exact h1, List.le_of_lt h2⟩
  · constructor
    · intro m
      obtain ⟨w, hw, rfl⟩ := List.mem_map.mp m
      exact (mem w).mp hw
    · intro m
      have e : SX.S (TL.tl z) = z := TL.mk_tl z
      exact List.mem_map.mpr ⟨TL.tl z, (mem _).mpr (by rw [e]; exact m), e⟩
end SH
set_option Elab.async false
set_option linter.all false
set_option maxRecDepth 100000
set_option maxHeartbeats 4000000
/-! xs[i] += e -/
namespace SH
open PySem PySem.Spec PyProof.Rows L2
theorem pget_list {X : Cx} : PGet X (rIxL X.K) := by
  intro pins s σ H x y v u Q I rx ry h
  obtain ⟨p, xs, i, z, rfl, rfl, hq, he, q⟩ := h
  cases rx
  obtain ⟨t, rfl⟩ := ry
  obtain ⟨its, r, pl, hz⟩ := I.list hq
  obtain ⟨j, h1, h2, h3, h4, h5⟩ := atI_get he
  obtain ⟨w, ew, rw'⟩ := r.get h2
  have hl := r.length
  have hn := line63
  have fin : EP X pins σ Q w s := ⟨z, H, I, rw', q⟩
  by_cases h0 : 0 ≤ i
  · have hj : i.toNat = j := by
      rw [seqIndex_of h0 h5] at h1
      exact Option.some.inj h1
    exact wpAny_getItem_list pl.isList h0 (by omega) (by rw [hj]; simpa using ew) fin
  · have hj : (i + (its.toArray.size : Int)).toNat = j := by
      rw [seqIndex_neg (by omega) h4] at h1
      rw [List.size_toArray, ← hl]
      exact Option.some.inj h1
    exact wpAny_getItem_list_neg pl.isList (by omega) (by rw [List.size_toArray] <;> omega) (by omega) (by rw [hj]; simpa using ew) fin
theorem pgetK {X : Cx} {K : PySem.W.Frag} (h : X.K = K := by rfl) : PGet X (rIxL K) := h ▸ pget_list
theorem call_len_seqK {X : Cx} {K : PySem.W.Frag} (h : X.K = K := by rfl) : CallR X (.builtin "len") (fun xs H Q => ∃ p ys, xs = [.ref p] ∧ (SqL K H p ys ∨ SqT K H p ys) ∧ Q (.int ys.length) H) := h ▸ call_len_seq
theorem call_list_ofK {X : Cx} {K : PySem.W.Frag} (h : X.K = K := by rfl) : CallR X (.type "list") (fun xs H Q => ∃ p ys, xs = [.ref p] ∧ (SqL K H p ys ∨ SqT K H p ys) ∧ ∀ l, H l = none → Q (.ref l) (upd H l (.lst ys))) := h ▸ call_list_of
theorem op_notIn_seqK {X : Cx} {K : PySem.W.Frag} (h : X.K = K := by rfl) : OpR X (compareOp .NotIn) (rIn K true) := h ▸ op_notIn_seq
end SH
set_option Elab.async false
set_option linter.all false
set_option maxRecDepth 100000
set_option maxHeartbeats 4000000
/-! slices of texts as lists of signs; letters joined -/
namespace SH
open PySem PySem.Spec PyProof.Rows L2
theorem tlen (z : Str) : (TL.tl z).length = z.length := (TL.len_tl z).symm
theorem cuts_take (z : Str) (k : Nat) : TL.tl (cutS z none (some (k : Int))) = (TL.tl z).take k := by
  show (z.cps.toList.drop (HT.sIx z.length 0 none)).take (HT.sIx z.length z.length (some (k : Int)) - HT.sIx z.length 0 none) = _
  rw [HT.sIx_none, HT.sIx_nat, List.drop_zero, Nat.sub_zero]
  have hz : z.cps.toList.length = z.length := rfl
  rcases Nat.le_total k z.length with h | h
  · rw [Nat.min_eq_left h]
  · rw [Nat.min_eq_right h, List.take_of_length_le (by rw [hz]; exact Nat.le_refl _)]
    exact (List.take_of_length_le (by rw [tlen]; exact h)).symm
theorem cuts_drop (z : Str) (k : Nat) : TL.tl (cutS z (some (k : Int)) none) = (TL.tl z).drop k := by
  show (z.cps.toList.drop (HT.sIx z.length 0 (some (k : Int)))).take (HT.sIx z.length z.length none - HT.sIx z.length 0 (some (k : Int))) = _
  rw [HT.sIx_none, HT.sIx_nat]
  have hz : z.cps.toList.length = z.length := rfl
  rcases Nat.le_total k z.length with h | h
  · rw [Nat.min_eq_left h, List.take_of_length_le (by rw [List.length_drop, hz]; exact Nat.le_refl _)]
  · rw [Nat.min_eq_right h, List.drop_of_length_le (by rw [hz]; exact Nat.le_refl _), List.take_nil]
    exact (List.drop_of_length_le (by rw [tlen]; exact h)).symm
theorem joinL_ones : ∀ cs : List Nat, TL.joinL [] (cs.map fun c => [c]) = cs
  | [] => rfl
  | [c] => rfl
  | c :: d :: r => by
    show [c] ++ ([] ++ TL.joinL [] ((d :: r).map fun c => [c])) = _
    rw [joinL_ones (d :: r)]
    rfl
theorem tl_join_ones (cs : List Nat) : TL.tl (Txt.join "" (cs.map fun c => (⟨#[c]⟩ : Str))) = cs := by
  have e : (Txt.join "" (cs.map fun c => (⟨#[c]⟩ : Str))).cps.toList = TL.joinL [] (cs.map fun c => [c]) := by
    rw [TL.join_eq]
    refine (TL.tl_join "" _).trans ?_
    rw [List.map_map]
    rfl
  rw [joinL_ones] at e
  exact e
theorem cut_let {z : Str} (h : IsLet z) (lo hi : Option Int) : IsLet (cutS z lo hi) := List.all_eq_true.mpr fun c hc => List.all_eq_true.mp h c (List.mem_of_mem_drop (List.mem_of_mem_take (show c ∈ (z.cps.toList.drop _).take _ from hc)))
end SH
set_option Elab.async false
set_option linter.all false
set_option maxRecDepth 100000
set_option maxHeartbeats 4000000
/-! a != b, two lists of equal things (dicts among them) -/
namespace PySem.SeqAt
open AutoSeq1 (wpAny_loadPart')
open MeetsSeq MeetsSeq2 MeetsSeq3 SeqRoads2
section
variable {prog : Program} {w : World}
theorem sh_ne_turn (p q : Addr) (us ws : Array Value) (m m2 : Nat) (dp dq : Option Addr) (kp kq : Array (Option Value)) (sz : us.size = ws.size) (k : Nat) :
    ∀ i : Nat, us.size - i = k → MeetsIn prog w (Builtin.«list.__eq__.loop» ⟨[.ref p, .ref q, rawInt i, rawInt 3], []⟩)
      (fun A R s => s.heap.get? p = some { cls := .type "list", dict := dp, data := .seq us m, slots := kp } ∧ s.heap.get? q = some { cls := .type "list", dict := dq, data := .seq ws m2, slots := kq } ∧
        (∀ j (h1 : j < us.size) (h2 : j < ws.size), EqP prog w A.in1 s us[j] ws[j] true) ∧ R (.ok (.ret (.bool false))) s) := by
  induction k with
  | zero =>
    intro i hk A R s h
    obtain ⟨hp, g, d, tk, os⟩ := s; obtain ⟨hP, hQ, he, h⟩ := h
    wp_walk using wpAny_loadPart' hP, wpAny_loadPart' hQ
    have i1 : us[((i : Nat) : Int).toNat]? = none := by simp; omega
    have i2 : ws[((i : Nat) : Int).toNat]? = none := by simp; omega
    rw [i1, i2]
    wp_walk using wpAny_loadPart' hP, wpAny_loadPart' hQ
    show R (.ok (.ret (.bool (us.size != ws.size)))) _
    rw [sz, bne_self_eq_false]
    exact h
  | succ k ih =>
    intro i hk A R s h
    obtain ⟨hp, g, d, tk, os⟩ := s; obtain ⟨hP, hQ, he, h⟩ := h
    wp_walk using wpAny_loadPart' hP, wpAny_loadPart' hQ
    have l1 : i < us.size := by omega
    have l2 : i < ws.size := by omega
    have i1 : us[((i : Nat) : Int).toNat]? = some us[i] := by simp [l1]
    have i2 : ws[((i : Nat) : Int).toNat]? = some ws[i] := by simp [l2]
    have ec : ((i : Int) + 1) = ((i + 1 : Nat) : Int) := by push_cast; rfl
    rw [i1, i2]
    refine wpAny_bind (he i l1 l2 _ _ ?_)
    wp_walk
    rw [ec]
    exact ⟨plainId_quiet plain_eq_loop _, codeAny_builtin entry_eq_loop (by
      rw [Around.under_plainId plain_eq_loop _]
      exact ih (i + 1) (by omega) A R _ ⟨hP, hQ, he, h⟩)⟩
theorem sh_list_ne (p q : Addr) (us ws : Array Value) (m m2 : Nat) (dp dq : Option Addr) (kp kq : Array (Option Value)) (sz : us.size = ws.size) :
    MeetsIn prog w (Builtin.«list.__ne__» ⟨[.ref p, .ref q], []⟩)
      (fun A R s => s.heap.get? p = some { cls := .type "list", dict := dp, data := .seq us m, slots := kp } ∧ s.heap.get? q = some { cls := .type "list", dict := dq, data := .seq ws m2, slots := kq } ∧
        (∀ j (h1 : j < us.size) (h2 : j < ws.size), EqP prog w A.in1 s us[j] ws[j] true) ∧ R (.ok (.ret (.bool false))) s) := by
  intro A R s h
  obtain ⟨hp, g, d, tk, os⟩ := s; obtain ⟨hP, hQ, he, h⟩ := h
  have f3 := AutoSeq1.sub_list_list
  have nz : ¬ (us.size != ws.size) = true := by simp [sz]
  wp_walk using wpAny_loadPart' hP, wpAny_loadPart' hQ
  exact ⟨plainId_quiet plain_eq_loop _, codeAny_builtin entry_eq_loop (by
    rw [Around.under_plainId plain_eq_loop _]
    exact sh_ne_turn p q us ws m m2 dp dq kp kq sz _ 0 rfl A R _ ⟨hP, hQ, he, h⟩)⟩
theorem sh_ne_lists {A : Around} {s : Shared} {p q : Addr} {us ws : Array Value} (hp : s.heap.IsList p us) (hq : s.heap.IsList q ws) (sz : us.size = ws.size) (hu : A.units < cLine)
    (he : ∀ j (h1 : j < us.size) (h2 : j < ws.size), EqP prog w A.in1 s us[j] ws[j] true) (E Q : Value → Shared → Prop) (h : Q (.bool false) s) : wpAny (model prog w) A (richCompare .NotEq (.ref p) (.ref q)) Q E s := by
  obtain ⟨⟨c1, d1, x1, s1⟩, ho, hc, n, hd⟩ := id hp
  obtain ⟨⟨c2, d2, x2, s2⟩, ho2, hc2, n2, hd2⟩ := id hq
  simp only at hc hd hc2 hd2
  subst hc hd hc2 hd2
  have ta : s.TypeIs (.ref p) "list" := ⟨_, ho, rfl⟩
  have tb : s.TypeIs (.ref q) "list" := ⟨_, ho2, rfl⟩
  exact wpAny_richCompare_same_room (op := .NotEq) ta tb F.slot_list_ne (call_meetsIn F.slot_list_ne ta F.entry_list_ne (F.args_list_ne_2 _ _) (sh_list_ne p q us ws n n2 d1 d2 s1 s2 sz)
    ⟨ho, ho2, he, show Value.bool false ≠ Value.notImplemented ∧ Q (.bool false) s from ⟨(fun x => nomatch x), h⟩⟩) hu
end
end PySem.SeqAt
namespace SH
open PySem PySem.Spec PyProof.Rows L2
def rNeV (K : PySem.W.Frag) : R2 := fun x y H Q => ∃ n a b xs ys, n ≤ 60 ∧ x = .ref a ∧ y = .ref b ∧ SqL K H a xs ∧ SqL K H b ys ∧ Paired (EqV K H n) xs ys ∧ Q (.bl false) H
theorem op_neV {X : Cx} (hu : X.A.units + 64 < cLine) : OpR X (compareOp .NotEq) (rNeV X.K) := by
  intro pins s σ H x y v u Q I rx ry h
  obtain ⟨n, a, b, xs, ys, hn, rfl, rfl, ha, hb, hp, q⟩ := h
  cases (show v = Value.ref a from rx)
  cases (show u = Value.ref b from ry)
  obtain ⟨us, r1, p1, _⟩ := I.list ha
  obtain ⟨ws, r2, p2, _⟩ := I.list hb
  have hsz : us.toArray.size = ws.toArray.size := by
    rw [List.size_toArray, List.size_toArray, ← r1.length, ← r2.length]
    exact Paired.length hp
  refine SeqAt.sh_ne_lists p1.isList p2.isList hsz (A := X.A) (by omega) (fun j h1 h2 => ?_) _ _ ⟨.bl false, H, I, rfl, q⟩
  have k := items_run (A := X.A.in1) (fun x y v u => eqV_run I n X.A.in1 (by show X.A.units + 1 + n < cLine; omega) x y v u) hp r1 r2 j (by simpa using h1) (by simpa using h2)
  simpa using k
theorem op_neVK {X : Cx} {K : PySem.W.Frag} (hu : X.A.units + 64 < cLine) (h : X.K = K := by rfl) : OpR X (compareOp .NotEq) (rNeV K) := h ▸ op_neV hu
theorem op_eqVK {X : Cx} {K : PySem.W.Frag} (hu : X.A.units + 64 < cLine) (h : X.K = K := by rfl) : OpR X (compareOp .Eq) (rEqV K) := h ▸ op_eqV hu
end SH
set_option Elab.async false
set_option linter.all false
set_option maxRecDepth 100000
set_option maxHeartbeats 4000000
/-! < of any data -/
namespace SH
open PySem PySem.Spec PyProof.Rows L2
def rLtD (K : PySem.W.Frag) : V → V → Hp → VK → Prop := fun x y H Q => ∃ d e, Dp K H x d ∧ Dp K H y e ∧ PySem.W.alike d e = true ∧ d ≠ .none ∧ d.depth ≤ 60 ∧ Q (.bl (PySem.W.dataLt d e)) H
theorem op_ltD {X : Cx} (hu : X.A.units + 64 < cLine) : OpR X (compareOp .Lt) (rLtD X.K) := by
  intro pins s σ H x y v u Q I rx ry h
  obtain ⟨d, e, hd, he, al, hn, hdp, q⟩ := h
  obtain ⟨as, r1⟩ := Dp.reads I d x v hd rx
  obtain ⟨bs, r2⟩ := Dp.reads I e y u he ry
  exact PySem.W.lt_data r1 r2 al hn (by omega) ⟨.bl _, H, I, rfl, q⟩
theorem op_ltDK {X : Cx} {K : PySem.W.Frag} (hu : X.A.units + 64 < cLine) (h : X.K = K := by rfl) : OpR X (compareOp .Lt) (rLtD K) := h ▸ op_ltD hu
theorem sl_tupK {X : Cx} {K : PySem.W.Frag} (h : X.K = K := by rfl) : SlR X (rSlT K) := h ▸ sl_tup
end SH
set_option Elab.async false
set_option linter.all false
set_option maxRecDepth 100000
set_option maxHeartbeats 4000000
/-! list(range(a, b, c)); a text backwards -/
namespace SH
open PySem PySem.Spec PyProof.Rows L2
def rgC (a c : Int) (n : Nat) : List V := (List.range n).map fun i => V.int (a + (i : Nat) * c)
theorem vals_rgC {a c : Int} {n : Nat} {acc : Array Value} (h : ItemsOf (fun i v => ∃ t, v = .int (a + i * c) t) acc n) : Vals (rgC a c n) acc.toList := by
  have e : acc.toList.length = n := by rw [Array.length_toList]; exact h.1
  unfold rgC
  rw [← e]
  refine vals_of_get acc.toList _ fun j u hj => ?_
  obtain ⟨t, rfl⟩ := h.2 j u (by rw [← hj, Array.getElem?_toList])
  exact ⟨t, rfl⟩
section
variable {X : Cx}
def tLstRg3 (ta : TA) : TE := fun σ H Q => ta σ H fun vs H1 => ∃ (i j c : Int) (n : Nat), vs = [.int i, .int j, .int c] ∧ RgC i j c n ∧ n ≤ 2 ^ 24 ∧ ∀ q, H1 q = none → Q (.ref q) (upd H1 q (.lst (rgC i c n)))
theorem pe_listRg3 {a b c : Expr} {ta : TA} {p pos p2 pos2 : Pos} (hc : X.calm = true) (hg : Gl X "list") (hm : X.mg "list" = none) (hg2 : Gl X "range") (hm2 : X.mg "range" = none) (ha : PA X [a, b, c] ta)
    (na : starEach [.Call (.Name "range" p) [a, b, c] [] pos] X.env = (false, eval (.Call (.Name "range" p) [a, b, c] [] pos) X.env) :: starEach [] X.env := by rfl)
    (hs : starEach [a, b, c] X.env = (false, eval a X.env) :: starEach [b, c] X.env := by rfl) (hpl : (backTo pos (starEach [b, c] X.env)).any (·.1) = false := by rfl) :
    PE X (.Call (.Name "list" p2) [.Call (.Name "range" p) [a, b, c] [] pos] [] pos2) (tLstRg3 ta) := by
  refine ⟨fun pins s σ H Q I h => ?_⟩
  have he : wpAny (model X.prog X.w) X.A (eval (.Call (.Name "range" p) [a, b, c] [] pos) X.env) (fun x s' => ∃ r i j k n t u v H', x = .ref r ∧ IsRange s'.heap r i j k t u v ∧ Inv X pins σ H' s' ∧ RgC i j k n ∧ n ≤ 2 ^ 24 ∧ ∀ q, H' q = none → Q (.ref q) (upd H' q (.lst (rgC i k n)))) X.xe s := by
    refine Call_ (ld_blt I hg2 hm2 boot_range (PyProof.Rows.callWith_type1 (thn (ha.run pos pins s σ H _ I h) fun us s1 ⟨vs, H1, I1, r1, q1⟩ => ?_) hs hpl))
    obtain ⟨i, j, k, n, e, ok, hn, q⟩ := q1
    obtain ⟨c0, c1, c2, c3⟩ := id ok
    subst e
    cases r1 with
    | cons r rr =>
      cases rr with
      | cons r' rr =>
        cases rr with
        | cons r'' rr =>
          cases rr
          obtain ⟨t, rfl⟩ := r
          obtain ⟨t', rfl⟩ := r'
          obtain ⟨t'', rfl⟩ := r''
          refine call_range_3 c0 ?_ (.inl (PyProof.noPylong_small c1))
          exact ⟨_, i, j, k, n, _, _, _, H1, rfl, IsRange.new _ _ _ _ _ _ _, I1.kept (t' := s1.toks) fun b o e => Heap.get?_push_of_some _ e, ok, hn, q⟩
  refine Call_ (ld_blt I hg hm boot_list (PyProof.Rows.callWith_type1 (args_cons (thn he fun x s1 ⟨r, i, j, k, n, t, u, v, H1, ex, hr, I1, ok, hn, q⟩ => args_nil ?_) na) na))
  subst ex
  obtain ⟨c0, c1, c2, c3⟩ := ok
  refine call_list_range (n := n) (I1.ok.hd hc) hr c2 c3 hn fun h' tk acc c' hk e' hi => ?_
  refine ⟨.ref s1.heap.objs.size, upd H1 s1.heap.objs.size (.lst (rgC i k n)), I1.laid hk (Nat.le_refl _) (show ObjOk X.prog X.w _ _ _ (.lst (rgC i k n)) from ⟨?_, acc.toList, c', vals_rgC hi, ?_⟩), rfl, q _ (I1.hok.fresh (Nat.le_refl _))⟩
  · unfold rgC
    rw [List.length_map, List.length_range, sizeLine_eq]
    exact hn
  · rw [Array.toArray_toList]; exact e'
/-- a text backwards -/
def revS (z : Str) : Str := ⟨z.cps.toList.reverse.toArray⟩
theorem revS_tl (z : Str) : TL.tl (revS z) = (TL.tl z).reverse := rfl
def tRevS (te : TE) : TE := fun σ H Q => te σ H fun x H1 => ∃ z : Str, x = .str z ∧ z.length ≤ sizeLine ∧ Q (.str (revS z)) H1
theorem krs_pick (z : Str) : ((Builtin.Str.strSliceIndices none none (-1) z.length).filterMap (z.cps[·]?)).toArray = z.cps.toList.reverse.toArray := by
  have e : Builtin.Str.strSliceIndices none none (-1) z.length = (List.range z.length).map fun k => z.length - 1 - k := PySem.W.krv_sliceRange z.length
  rw [e, PySem.W.krv_range, List.filterMap_reverse]
  show ((List.filterMap (z.cps[·]?) (List.range z.cps.size)).reverse).toArray = _
  rw [PySem.W.krv_all]
theorem pe_revS {e : Expr} {te : TE} {k : Nat} {p1 p2 p3 pos : Pos} (he : PE X e te) : PE X (.Subscript e (.Slice none none (some (.UnaryOp .USub (.Constant (.int 1) k p1) p2)) p3) pos) (tRevS te) := by
  refine ⟨fun pins s σ H Q I h => ?_⟩
  refine Subscript_ (thn (he.run pins s σ H _ I h) fun v s1 ⟨x, H1, I1, r1, q1⟩ => ?_)
  obtain ⟨z, ex, hz, q⟩ := q1
  subst ex
  obtain ⟨t, rfl⟩ := r1
  have hst : PO X (some (.UnaryOp .USub (.Constant (.int 1) k p1) p2)) (tPart (tUn (rU fun i => .int (-i)) (tC (.int 1)))) := po_some (pe_un un_neg pe_int)
  refine wpAny_Slice (thn (po_none.run pins s1 σ H1 (fun o H2 => o = none ∧ H2 = H1) I1 ⟨rfl, rfl⟩) fun vl s2 ⟨l, H2, I2, pl, el, e2⟩ => ?_)
  subst el e2
  refine thn (po_none.run pins s2 σ H2 (fun o H3 => o = none ∧ H3 = H2) I2 ⟨rfl, rfl⟩) fun vu s3 ⟨u, H3, I3, pu, eu, e3⟩ => ?_
  subst eu e3
  refine thn (hst.run pins s3 σ H3 (fun o H4 => o = some (-1) ∧ H4 = H3) I3 ⟨1, rfl, -1, rfl, rfl, rfl⟩) fun vs s4 ⟨o, H4, I4, ps, eo, e4⟩ => ?_
  subst eo e4
  have I5 : Inv X pins σ H4 { s4 with heap := s4.heap.push { cls := .type "slice", data := .fields #[vl, vu, vs] } } := I4.kept (t' := s4.toks) fun b ob q => Heap.get?_push_of_some _ q
  obtain ⟨l, rfl, el⟩ := IsPart.raw pl
  obtain ⟨u, rfl, eu⟩ := IsPart.raw pu
  obtain ⟨st, rfl, es⟩ := IsPart.raw ps
  have hS := Heap.IsSliceOf.new s4.heap (partValue l) (partValue u) (partValue st)
  obtain ⟨os, hos, hcs, hds⟩ := hS
  show wpAny (model X.prog X.w) X.A (subscriptTail e (.Slice none none (some (.UnaryOp .USub (.Constant (.int 1) k p1) p2)) p3) (.str z t) (.ref s4.heap.objs.size)) (EP X pins σ Q) X.xe { s4 with heap := s4.heap.push { cls := .type "slice", data := .fields #[partValue l, partValue u, partValue st] } }
  refine tail_any (ops := [.str z t, .ref s4.heap.objs.size]) (typeIs_str _ _ _) (F.slot_str_getitem.lookup) ?_ (by with_unfolding_all rfl)
  have es1 : (st.map (·.1)) = some (-1) := es
  refine wpAny_getItem_str_slice (l := l) (u := u) (st := st) ⟨os, hos, hcs, hds⟩ (by rw [es1]; rfl) ?_
  unfold sliceMade slicePicked
  rw [es1, el, eu]
  have hne : ¬ (((some (-1 : Int)).getD 1 == 1 && (Builtin.Str.strSliceIndices none none ((some (-1 : Int)).getD 1) z.length).length == z.length) = true) := by
    rw [show ((some (-1 : Int)).getD 1 == 1) = false from rfl, Bool.false_and]
    exact Bool.false_ne_true
  rw [if_neg hne]
  have e3 : ((Builtin.Str.strSliceIndices none none ((some (-1 : Int)).getD 1) z.length).filterMap (z.cps[·]?)).toArray = z.cps.toList.reverse.toArray := krs_pick z
  rw [e3]
  refine ⟨?_, .str (revS z), H4, I5.tok _, ⟨_, rfl⟩, q⟩
  show z.cps.toList.reverse.toArray.size ≤ sizeLine
  rw [List.size_toArray, List.length_reverse]
  exact hz
theorem pe_revLK {K : PySem.W.Frag} {e : Expr} {te : TE} {k : Nat} {p1 p2 p3 pos : Pos} (he : PE X e te) (h : X.K = K := by rfl) : PE X (.Subscript e (.Slice none none (some (.UnaryOp .USub (.Constant (.int 1) k p1) p2)) p3) pos) (tRevL K te) := h ▸ pe_revL he
end
end SH
set_option Elab.async false
set_option linter.all false
set_option maxRecDepth 100000
set_option maxHeartbeats 4000000
/-! distances of words, tables of them -/
namespace SH
open PySem PySem.Spec PyProof.Rows L2
def ed : List Nat → List Nat → Nat
  | [], y => y.length
  | _ :: x, [] => x.length + 1
  | a :: x, b :: y => min (ed x (b :: y) + 1) (min (ed (a :: x) y + 1) (ed x y + if a = b then 0 else 1))
termination_by x y => x.length + y.length
theorem ed_nil (y : List Nat) : ed [] y = y.length := by
  unfold ed
  rfl
theorem ed_nil2 (x : List Nat) : ed x [] = x.length := by
  cases x <;> unfold ed <;> rfl
theorem ed_cons (a b : Nat) (x y : List Nat) : ed (a :: x) (b :: y) = min (ed x (b :: y) + 1) (min (ed (a :: x) y + 1) (ed x y + if a = b then 0 else 1)) := by
  rw [ed]
theorem ed_out (a : Nat) (x y : List Nat) : ed (a :: x) y ≤ ed x y + 1 := by
  cases y with
  | nil => rw [ed_nil2, ed_nil2]; exact Nat.le_refl _
  | cons b y => rw [ed_cons]; omega
theorem ed_put (b : Nat) (x y : List Nat) : ed x (b :: y) ≤ ed x y + 1 := by
  cases x with
  | nil => rw [ed_nil, ed_nil]; exact Nat.le_refl _
  | cons a x => rw [ed_cons]; omega
theorem ed_lip (a : Nat) (x : List Nat) : ∀ y : List Nat, ed x y ≤ ed (a :: x) y + 1
  | [] => by rw [ed_nil2, ed_nil2, List.length_cons]; omega
  | b :: y => by
    have ih := ed_lip a x y
    have h := ed_put b x y
    rw [ed_cons]
    split <;> omega
theorem ed_symm : ∀ (x y : List Nat), ed x y = ed y x
  | [], y => by rw [ed_nil, ed_nil2]
  | a :: x, [] => by rw [ed_nil, ed_nil2]
  | a :: x, b :: y => by
    rw [ed_cons, ed_cons, ed_symm x (b :: y), ed_symm (a :: x) y, ed_symm x y]
    have : (if a = b then 0 else 1) = (if b = a then 0 else 1) := by
      by_cases h : a = b
      · rw [if_pos h, if_pos h.symm]
      · rw [if_neg h, if_neg (fun z => h z.symm)]
    rw [this]
    omega
termination_by x y => x.length + y.length
theorem ed_lip2 (b : Nat) (x y : List Nat) : ed x y ≤ ed x (b :: y) + 1 := by
  rw [ed_symm x y, ed_symm x (b :: y)]
  exact ed_lip b y x
/-- what begins alike -/
theorem ed_same (a : Nat) (x y : List Nat) : ed (a :: x) (a :: y) = ed x y := by
  rw [ed_cons, if_pos rfl]
  have := ed_lip2 a x y
  have := ed_lip a x y
  omega
theorem ed_diff {a b : Nat} (h : a ≠ b) (x y : List Nat) : ed (a :: x) (b :: y) = 1 + min (ed x (b :: y)) (min (ed (a :: x) y) (ed x y)) := by
  rw [ed_cons, if_neg h]
  omega
theorem ed_self : ∀ x : List Nat, ed x x = 0
  | [] => by rw [ed_nil]; rfl
  | a :: x => by rw [ed_same, ed_self x]
theorem ed_le (x y : List Nat) : ed x y ≤ x.length + y.length := by
  induction x with
  | nil => rw [ed_nil]; omega
  | cons a x ih =>
    have := ed_out a x y
    rw [List.length_cons]
    omega
/-! ### rows and tables -/
def rowE (x y : List Nat) : List Int := (List.range (y.length + 1)).map fun j => ((ed x (y.drop j) : Nat) : Int)
def tabE (x y : List Nat) : List (List Int) := (List.range (x.length + 1)).map fun i => rowE (x.drop i) y
theorem rowE_len (x y : List Nat) : (rowE x y).length = y.length + 1 := by unfold rowE; rw [List.length_map, List.length_range]
theorem tabE_len (x y : List Nat) : (tabE x y).length = x.length + 1 := by unfold tabE; rw [List.length_map, List.length_range]
theorem rowE_at {x y : List Nat} {j : Nat} (h : j ≤ y.length) : (rowE x y)[j]? = some ((ed x (y.drop j) : Nat) : Int) := by
  unfold rowE
  rw [List.getElem?_map, List.getElem?_range (by omega)]
  rfl
theorem tabE_at {x y : List Nat} {i : Nat} (h : i ≤ x.length) : (tabE x y)[i]? = some (rowE (x.drop i) y) := by
  unfold tabE
  rw [List.getElem?_map, List.getElem?_range (by omega)]
  rfl
theorem rowE_of {x y : List Nat} {l : List Int} (hl : l.length = y.length + 1) (h : ∀ j, j ≤ y.length → l[j]? = some ((ed x (y.drop j) : Nat) : Int)) : l = rowE x y := by
  refine List.ext_getElem? fun j => ?_
  rcases Nat.lt_or_ge y.length j with c | c
  · rw [List.getElem?_eq_none (by omega), List.getElem?_eq_none (by rw [rowE_len]; omega)]
  · rw [h j c, rowE_at c]
/-- the same recursion over the whole table, from the ends -/
theorem drop_cons {y : List Nat} {j : Nat} (h : j < y.length) : y.drop j = y[j] :: y.drop (j + 1) := List.drop_eq_getElem_cons h
/-! ### tables in the heap -/
structure TabAt (H : Hp) (t : Addr) (rs : List Addr) (M : List (List Int)) : Prop where
  at_ : H t = some (.lst (rs.map V.ref))
  len : rs.length = M.length
  row : ∀ (i : Nat) (r : Addr) (l : List Int), rs[i]? = some r → M[i]? = some l → H r = some (.lst (l.map V.int))
theorem TabAt.same {H H' : Hp} {t : Addr} {rs : List Addr} {M : List (List Int)} (s : Same H H') (h : TabAt H t rs M) : TabAt H' t rs M :=
  ⟨s _ _ h.at_, h.len, fun i r l a b => s _ _ (h.row i r l a b)⟩
def dM (M : List (List Int)) : PyData := .list (M.map dI)
theorem dp_all_of {K : PySem.W.Frag} {H : Hp} : ∀ {vs : List V} {ds : List PyData}, vs.length = ds.length → (∀ (i : Nat) (v : V) (d : PyData), vs[i]? = some v → ds[i]? = some d → Dp K H v d) → DpAll K H vs ds
  | [], [], _, _ => .nil
  | [], _ :: _, h, _ => by simp at h
  | _ :: _, [], h, _ => by simp at h
  | v :: vs, d :: ds, h, f => .cons (f 0 v d rfl rfl) (dp_all_of (by simpa using h) fun i a b h1 h2 => f (i + 1) a b (by simpa using h1) (by simpa using h2))
theorem dp_tab {K : PySem.W.Frag} {H : Hp} {t : Addr} {rs : List Addr} {M : List (List Int)} (h : TabAt H t rs M) : Dp K H (.ref t) (dM M) := by
  refine .lst (SqL.of h.at_) (dp_all_of (by rw [List.length_map, List.length_map, h.len]) fun i v d h1 h2 => ?_)
  rw [List.getElem?_map] at h1 h2
  cases e1 : rs[i]? with
  | none => rw [e1] at h1; cases h1
  | some r =>
    cases e2 : M[i]? with
    | none => rw [e2] at h2; cases h2
    | some l =>
      rw [e1] at h1
      rw [e2] at h2
      cases h1
      cases h2
      exact dp_i (SqL.of (h.row i r l e1 e2))
theorem okd_M (M : List (List Int)) : Okd (dM M) := okd_list (fun d m => by
  obtain ⟨l, _, rfl⟩ := List.mem_map.mp m
  exact dI_lay l) fun d m => by
  obtain ⟨l, _, rfl⟩ := List.mem_map.mp m
  exact Nat.le_trans (dI_d l) (by decide)
/-- a new table -/
def NewTab (H H' : Hp) (t : Addr) (rs : List Addr) (M : List (List Int)) : Prop := TabAt H' t rs M ∧ H t = none ∧ ∀ r ∈ rs, H r = none
/-- the table of two words: new lists -/
def spTable : Sp := fun vs H Q _ => ∃ a b : Str, vs = [.str a, .str b] ∧ a.length ≤ 200 ∧ b.length ≤ 200 ∧ ∀ (t : Addr) (rs : List Addr) (H' : Hp), Same H H' → NewTab H H' t rs (tabE (TL.tl a) (TL.tl b)) → Q (.ref t) H'
theorem ixN_nat {n j : Nat} (h : j < n) : ixN n (j : Int) = some j := by
  unfold ixN
  rw [if_pos (by omega), if_pos (by omega), Int.toNat_natCast]
theorem nuMin2_int (a b : Int) : nuMin2 (.int a) (.int b) = some (.int (min a b)) := by
  show some (if decide (b < a) = true then V.int b else V.int a) = _
  by_cases h : b < a
  · rw [decide_eq_true h, if_pos rfl, show min a b = b by omega]
  · rw [decide_eq_false h, if_neg Bool.false_ne_true, show min a b = a by omega]
theorem nuMin3_int (a b c : Int) : nuMin3 (.int a) (.int b) (.int c) = some (.int (min a (min b c))) := by
  unfold nuMin3
  rw [nuMin2_int]
  show nuMin2 (.int (min a b)) (.int c) = _
  rw [nuMin2_int, show min (min a b) c = min a (min b c) by omega]
end SH
set_option Elab.async false
set_option linter.all false
set_option maxRecDepth 100000
set_option maxHeartbeats 4000000
/-! a table that is filled -/
namespace SH
open PySem PySem.Spec PyProof.Rows L2
def rowF (F : Nat → Nat → Int) (n i : Nat) : List V := (List.range (n + 1)).map fun j => V.int (F i j)
structure TabF (H0 H : Hp) (t : Addr) (rs : List Addr) (m n : Nat) (F : Nat → Nat → Int) : Prop where
  sm : Same H0 H
  at_ : H t = some (.lst (rs.map V.ref))
  nt : H0 t = none
  len : rs.length = m + 1
  nd : rs.Nodup
  new : ∀ r ∈ rs, r ≠ t ∧ H0 r = none
  row : ∀ (i : Nat) (r : Addr), rs[i]? = some r → H r = some (.lst (rowF F n i))
theorem TabF.same {H0 H H' : Hp} {t : Addr} {rs : List Addr} {m n : Nat} {F : Nat → Nat → Int} (h : TabF H0 H t rs m n F) (s : Same H H') : TabF H0 H' t rs m n F :=
  ⟨h.sm.trans s, s _ _ h.at_, h.nt, h.len, h.nd, h.new, fun i r e => s _ _ (h.row i r e)⟩
theorem rowF_at {F : Nat → Nat → Int} {n i j : Nat} (h : j ≤ n) : (rowF F n i)[j]? = some (.int (F i j)) := by
  unfold rowF
  rw [List.getElem?_map, List.getElem?_range (by omega)]
  rfl
theorem rowF_len (F : Nat → Nat → Int) (n i : Nat) : (rowF F n i).length = n + 1 := by
  unfold rowF
  rw [List.length_map, List.length_range]
theorem TabF.cell {H0 H : Hp} {t : Addr} {rs : List Addr} {m n : Nat} {F : Nat → Nat → Int} (h : TabF H0 H t rs m n F) {i j : Nat} (hi : i ≤ m) (hj : j ≤ n) :
    ∃ r, rs[i]? = some r ∧ r ∈ rs ∧ atI (rs.map V.ref) (i : Int) = some (.ref r) ∧ H r = some (.lst (rowF F n i)) ∧ atI (rowF F n i) (j : Int) = some (.int (F i j)) := by
  have l := h.len
  have e : rs[i]? = some (rs[i]'(by omega)) := List.getElem?_eq_getElem (by omega)
  exact ⟨_, e, List.getElem_mem _, atI_nat (by rw [List.getElem?_map, e]; rfl), h.row i _ e, atI_nat (rowF_at hj)⟩
def setF (F : Nat → Nat → Int) (i j : Nat) (v : Int) : Nat → Nat → Int := fun a c => if a = i ∧ c = j then v else F a c
theorem TabF.set {H0 H : Hp} {t : Addr} {rs : List Addr} {m n : Nat} {F : Nat → Nat → Int} (h : TabF H0 H t rs m n F) {i j : Nat} {r : Addr} (e : rs[i]? = some r) (hj : j ≤ n) (v : Int) :
    TabF H0 (upd H r (.lst ((rowF F n i).set j (.int v)))) t rs m n (setF F i j v) := by
  have rm := List.mem_of_getElem? e
  have nw := h.new r rm
  refine ⟨same_mut h.sm nw.2, ?_, h.nt, h.len, h.nd, h.new, fun k r2 e2 => ?_⟩
  · rw [upd_ne (fun z => nw.1 z.symm)]
    exact h.at_
  · by_cases c : k = i
    · subst c
      rw [e] at e2
      obtain rfl := Option.some.inj e2
      rw [upd_same]
      congr 2
      refine List.ext_getElem? fun a => ?_
      rcases Nat.lt_or_ge n a with ha | ha
      · rw [List.getElem?_eq_none (by rw [List.length_set, rowF_len]; omega), List.getElem?_eq_none (by rw [rowF_len]; omega)]
      · rw [rowF_at ha]
        unfold setF
        by_cases c : a = j
        · subst c
          rw [List.getElem?_set_self (by rw [rowF_len]; omega), if_pos ⟨rfl, rfl⟩]
        · rw [List.getElem?_set_ne (fun z => c z.symm), rowF_at ha, if_neg (fun z => c z.2)]
    · have ne : r2 ≠ r := fun z => by
        subst z
        have h1 := (List.getElem?_eq_some_iff.mp e)
        have h2 := (List.getElem?_eq_some_iff.mp e2)
        obtain ⟨l1, g1⟩ := h1
        obtain ⟨l2, g2⟩ := h2
        rcases Nat.lt_trichotomy k i with z | z | z
        · exact List.pairwise_iff_getElem.mp h.nd k i l2 l1 z (g2.trans g1.symm)
        · exact c z
        · exact List.pairwise_iff_getElem.mp h.nd i k l1 l2 z (g1.trans g2.symm)
      rw [upd_ne ne, h.row k r2 e2]
      congr 2
      unfold rowF setF
      refine List.map_congr_left fun a _ => ?_
      rw [if_neg (fun z => c z.1)]
theorem TabF.tab {H0 H : Hp} {t : Addr} {rs : List Addr} {x y : List Nat} {F : Nat → Nat → Int} (h : TabF H0 H t rs x.length y.length F) (hF : ∀ a c, a ≤ x.length → c ≤ y.length → F a c = ((ed (x.drop a) (y.drop c) : Nat) : Int)) : NewTab H0 H t rs (tabE x y) := by
  refine ⟨⟨h.at_, by rw [h.len, tabE_len], fun i r l e1 e2 => ?_⟩, h.nt, fun r m => (h.new r m).2⟩
  have hi : i ≤ x.length := by
    have := (List.getElem?_eq_some_iff.mp e1).1
    have := h.len
    omega
  rw [tabE_at hi] at e2
  obtain rfl := Option.some.inj e2
  rw [h.row i r e1]
  unfold rowF rowE
  rw [List.map_map]
  congr 2
  refine List.map_congr_left fun c hc => ?_
  have := List.mem_range.mp hc
  rw [hF i c hi (by omega)]
  rfl
theorem eqv_nil_ne (x : Int) (l : List Int) : PyData.eqv (dI (x :: l)) (dI []) = false := rfl
theorem setF_same (F : Nat → Nat → Int) (i j : Nat) (v : Int) : setF F i j v i j = v := if_pos ⟨rfl, rfl⟩
theorem setF_ne {F : Nat → Nat → Int} {i j a c : Nat} {v : Int} (h : ¬ (a = i ∧ c = j)) : setF F i j v a c = F a c := if_neg h
end SH
set_option Elab.async false
set_option linter.all false
set_option maxRecDepth 100000
set_option maxHeartbeats 4000000
/-! lines of a house's text -/
namespace SH
open PySem PySem.Spec PyProof.Rows L2 TL
def dg (c : Nat) : Bool := decide (48 ≤ c) && decide (c ≤ 57)
/-- the number that a numeral of one or two signs gives -/
def numIn (a : List Nat) : Option Nat := match a with
  | [c] => if dg c = true then some (c - 48) else none
  | [c, d] => if (dg c && dg d && !(c == 48)) = true then some ((c - 48) * 10 + (d - 48)) else none
  | _ => none
inductive Ft where
  | line | text | order | many
/-- what stands before and behind the first colon -/
def col (z : Str) : Option (Str × Str) := if Txt.find z ":" = -1 then none else some ((Txt.partition z ":").1, (Txt.partition z ":").2.2)
theorem col_cases (z : Str) : (col z = none ∧ Txt.partition z ":" = (z, Str.empty, Str.empty) ∧ Txt.find z ":" = -1) ∨
    ∃ (i : Nat) (a b : Str), col z = some (a, b) ∧ Txt.partition z ":" = (a, (":" : Str), b) ∧ Txt.find z ":" = (i : Int) ∧ tl a = (tl z).take i ∧ tl b = (tl z).drop (i + 1) ∧ i + 1 ≤ z.length := by
  rcases StrLaws.occ_head z ":" 1 (Nat.le_refl 1) with ⟨h0, hn⟩ | ⟨i, r, h0, hi, hn⟩
  · left
    have f : Txt.find z ":" = -1 := by unfold Txt.find; rw [h0]
    refine ⟨by unfold col; rw [if_pos f], ?_, f⟩
    unfold Txt.partition
    rw [h0]
  · right
    have f : Txt.find z ":" = (i : Int) := by unfold Txt.find; rw [h0]
    have p : Txt.partition z ":" = (Builtin.Str.strSub z 0 i, (":" : Str), Builtin.Str.strSub z (i + (":" : Str).length) z.length) := by
      unfold Txt.partition
      rw [h0]
    refine ⟨i, Builtin.Str.strSub z 0 i, Builtin.Str.strSub z (i + 1) z.length, ?_, p, f, ?_, ?_, hi.1⟩
    · unfold col
      rw [if_neg (by rw [f]; omega), p]
      rfl
    · rw [tl_strSub, List.drop_zero, Nat.sub_zero]
    · rw [tl_strSub_end]
/-- a line: its pair, or its first fault -/
def lineR (z : Str) : Sum (Nat × Str) Ft := match col z with
  | none => .inr .line
  | some (a, b) => match numIn (tl a) with
    | none => .inr .line
    | some n => if 40 < b.length then .inr .text else .inl (n, b)
/-- the lines from the k-th on, behind the number b -/
def rdH (rest : Str) : Nat → Int → List Str → Sum (List (Int × Str)) (Ft × Nat)
  | k, _, [] => if rest = "" then .inl [] else .inr (.line, k)
  | k, b, z :: r => match lineR z with
    | .inr t => .inr (t, k)
    | .inl (n, x) => if (n : Int) ≤ b then .inr (.order, k) else if 8 ≤ k then .inr (.many, k) else match rdH rest (k + 1) n r with
      | .inl h => .inl ((n, x) :: h)
      | .inr e => .inr e
/-- with the pairs that have been read -/
def ahead (h : List (Int × Str)) : Sum (List (Int × Str)) (Ft × Nat) → Sum (List (Int × Str)) (Ft × Nat)
  | .inl t => .inl (h ++ t)
  | .inr e => .inr e
theorem rdH_step {rest z x : Str} {k n : Nat} {b : Int} {r : List Str} {h : List (Int × Str)} (hl : lineR z = .inl (n, x)) (h1 : ¬ (n : Int) ≤ b) (h2 : ¬ 8 ≤ k) :
    ahead h (rdH rest k b (z :: r)) = ahead (h ++ [((n : Int), x)]) (rdH rest (k + 1) n r) := by
  rw [rdH, hl]
  show ahead h (if (n : Int) ≤ b then _ else if 8 ≤ k then _ else _) = _
  rw [if_neg h1, if_neg h2]
  cases rdH rest (k + 1) n r with
  | inl t => show Sum.inl (h ++ ((n : Int), x) :: t) = Sum.inl (h ++ [((n : Int), x)] ++ t); rw [List.append_assoc]; rfl
  | inr e => rfl
/-- a text -/
def rdT (z : Str) : Sum (List (Int × Str)) (Ft × Nat) := rdH ((Txt.split z "\n").getLastD "") 0 (-1) (Txt.split z "\n").dropLast
/-! numerals -/
theorem digit_ascii : ∀ c : Nat, c < 128 → Unicode.isDigit c = dg c := by decide +kernel
theorem numIn_one {c n : Nat} : numIn [c] = some n ↔ dg c = true ∧ n = c - 48 := by
  show (if dg c = true then some (c - 48) else none) = some n ↔ _
  by_cases h : dg c = true
  · rw [if_pos h]
    exact ⟨fun e => ⟨h, (Option.some.inj e).symm⟩, fun e => by rw [e.2]⟩
  · rw [if_neg h]
    exact ⟨(fun e => by cases e), (fun e => absurd e.1 h)⟩
theorem numIn_two {c d n : Nat} : numIn [c, d] = some n ↔ dg c = true ∧ dg d = true ∧ c ≠ 48 ∧ n = (c - 48) * 10 + (d - 48) := by
  show (if (dg c && dg d && !(c == 48)) = true then some ((c - 48) * 10 + (d - 48)) else none) = some n ↔ _
  by_cases h : (dg c && dg d && !(c == 48)) = true
  · rw [if_pos h]
    simp at h
    exact ⟨fun e => ⟨h.1.1, h.1.2, h.2, (Option.some.inj e).symm⟩, fun e => by rw [e.2.2.2]⟩
  · rw [if_neg h]
    refine ⟨(fun e => by cases e), (fun e => absurd ?_ h)⟩
    simp [e.1, e.2.1, e.2.2.1]
theorem dg_iff {c : Nat} : dg c = true ↔ 48 ≤ c ∧ c ≤ 57 := by
  unfold dg
  simp
theorem numIn_le {a : List Nat} {n : Nat} (h : numIn a = some n) : n ≤ 99 := by
  match a, h with
  | [c], h =>
    obtain ⟨h1, h2⟩ := numIn_one.mp h
    have := dg_iff.mp h1
    omega
  | [c, d], h =>
    obtain ⟨h1, h2, h3, h4⟩ := numIn_two.mp h
    have := dg_iff.mp h1
    have := dg_iff.mp h2
    omega
  | [], h => cases h
  | _ :: _ :: _ :: _, h => cases h
theorem numIn_len {a : List Nat} {n : Nat} (h : numIn a = some n) : a.length = 1 ∨ a.length = 2 := by
  match a, h with
  | [_], _ => exact .inl rfl
  | [_, _], _ => exact .inr rfl
  | [], h => cases h
  | _ :: _ :: _ :: _, h => cases h
theorem log_small {n : Nat} (h : n ≤ 1000) : ((n : Nat) : Int).natAbs.log2 < 1920 := by
  rw [Int.natAbs_natCast]
  exact Nat.lt_of_le_of_lt (Nat.le_trans (Nat.log2_le_self n) h) (by decide)
/-! texts whose signs are signs -/
def OkS (z : Str) : Prop := ∀ c ∈ tl z, c < 1114112
theorem OkS.ok {z : Str} (h : OkS z) : PyData.strOk z = true := by
  unfold PyData.strOk
  rw [← Array.all_toList]
  exact List.all_eq_true.mpr fun c hc => decide_eq_true (h c hc)
theorem OkS.app {a b : Str} (ha : OkS a) (hb : OkS b) : OkS (a ++ b) := fun c hc => by
  rw [tl_append] at hc
  exact (List.mem_append.mp hc).elim (ha c) (hb c)
theorem OkS.cut {z : Str} (h : OkS z) (lo hi : Option Int) : OkS (cutS z lo hi) := fun c hc => h c (List.mem_of_mem_drop (List.mem_of_mem_take (show c ∈ (z.cps.toList.drop _).take _ from hc)))
theorem ok_let {z : Str} (h : IsLet z) : OkS z := fun c hc => by
  have := okc_lt (List.all_eq_true.mp h c hc)
  omega
theorem ok_part {z x a b : Str} (h : OkS z) {i : Nat} (ha : tl a = (tl z).take i) (hb : tl b = (tl z).drop (i + 1)) : OkS a ∧ OkS b :=
  ⟨fun c hc => h c (List.mem_of_mem_take (by rw [← ha]; exact hc)), fun c hc => h c (List.mem_of_mem_drop (by rw [← hb]; exact hc))⟩
/-- signs and separators of a list of texts -/
def tot (ys : List Str) : Nat := (ys.map (·.length)).sum + ys.length
theorem tot_app (a b : List Str) : tot (a ++ b) = tot a + tot b := by
  unfold tot
  rw [List.map_append, List.sum_append, List.length_append]
  omega
theorem tot_take_drop (a : List Str) (i : Nat) : tot (a.take i) + tot (a.drop i) = tot a := by
  rw [← tot_app, List.take_append_drop]
theorem tot_one (x : Str) : tot [x] = x.length + 1 := by
  unfold tot
  simp
theorem joinL_tot : ∀ l : List (List Nat), (joinL [10] l).length ≤ (l.map List.length).sum + l.length
  | [] => Nat.le_refl _
  | [p] => by simp [joinL]
  | p :: q :: r => by
    have ih := joinL_tot (q :: r)
    show (p ++ ([10] ++ joinL [10] (q :: r))).length ≤ _
    rw [List.length_append, List.length_append, List.map_cons, List.sum_cons, List.length_cons (a := p)]
    simp only [List.length_cons, List.length_nil] at ih ⊢
    omega
theorem join_tot (ys : List Str) : (Txt.join "\n" ys).length ≤ tot ys := by
  have e : tl (Txt.join "\n" ys) = joinL [10] (ys.map tl) := by
    rw [join_eq, tl_join]
    rfl
  have b := joinL_tot (ys.map tl)
  rw [← e, List.map_map, List.length_map] at b
  have c : ((List.length ∘ tl) : Str → Nat) = fun x => x.length := funext fun x => (len_tl x).symm
  rw [c] at b
  rw [len_tl]
  exact b
theorem joinL_mem2 {S : List Nat} {c : Nat} : ∀ {l : List (List Nat)}, c ∈ joinL S l → c ∈ S ∨ ∃ p ∈ l, c ∈ p
  | [], h => by cases h
  | [p], h => .inr ⟨p, List.mem_singleton.mpr rfl, h⟩
  | p :: q :: r, h => by
    have h' : c ∈ p ++ (S ++ joinL S (q :: r)) := h
    rcases List.mem_append.mp h' with m | m
    · exact .inr ⟨p, List.mem_cons_self .., m⟩
    · rcases List.mem_append.mp m with m | m
      · exact .inl m
      · rcases joinL_mem2 m with m | ⟨x, hx, m⟩
        · exact .inl m
        · exact .inr ⟨x, List.mem_cons_of_mem _ hx, m⟩
theorem ok_join {y : Str} (hy : OkS y) {ys : List Str} (h : ∀ x ∈ ys, OkS x) : OkS (Txt.join y ys) := fun c hc => by
  rw [join_eq, tl_join] at hc
  rcases joinL_mem2 hc with m | ⟨p, hp, m⟩
  · exact hy c m
  · obtain ⟨x, hx, rfl⟩ := List.mem_map.mp hp
    exact h x hx c m
theorem split_more (z : Str) : Txt.split z "\n" ≠ [] ∧ tot (Txt.split z "\n") = z.length + 1 ∧ (OkS z → ∀ x ∈ Txt.split z "\n", OkS x) := by
  have key : ∀ (l acc : List Nat), spl [10] 0 acc l ≠ [] ∧ ((spl [10] 0 acc l).map List.length).sum + (spl [10] 0 acc l).length = acc.length + l.length + 1 ∧ ∀ x ∈ spl [10] 0 acc l, ∀ c ∈ x, c ∈ acc ∨ c ∈ l := by
    intro l
    induction l with
    | nil =>
      intro acc
      rw [spl_nil]
      exact ⟨by simp, by simp, fun x hx c hc => by rw [List.mem_singleton.mp hx] at hc; exact .inl hc⟩
    | cons d r ih =>
      intro acc
      by_cases h : pre [10] (d :: r) = true
      · have e : spl [10] 0 acc (d :: r) = acc :: spl [10] 0 [] r := spl_hit h
        obtain ⟨i1, i2, i3⟩ := ih []
        rw [e]
        refine ⟨by simp, ?_, fun x hx c hc => ?_⟩
        · rw [List.map_cons, List.sum_cons, List.length_cons, List.length_cons]
          rw [List.length_nil] at i2
          omega
        · rcases List.mem_cons.mp hx with e1 | m
          · rw [e1] at hc
            exact .inl hc
          · rcases i3 x m c hc with q | q
            · cases q
            · exact .inr (List.mem_cons_of_mem _ q)
      · have e : spl [10] 0 acc (d :: r) = spl [10] 0 (acc ++ [d]) r := by
          show (if pre [10] (d :: r) = true then _ else _) = _
          rw [if_neg h]
        obtain ⟨i1, i2, i3⟩ := ih (acc ++ [d])
        rw [e]
        refine ⟨i1, ?_, fun x hx c hc => ?_⟩
        · have a1 : (acc ++ [d]).length = acc.length + 1 := by simp
          have a2 : (d :: r).length = r.length + 1 := rfl
          omega
        · rcases i3 x hx c hc with q | q
          · rcases List.mem_append.mp q with q | q
            · exact .inl q
            · rw [List.mem_singleton.mp q]; exact .inr (List.mem_cons_self ..)
          · exact .inr (List.mem_cons_of_mem _ q)
  have e : (Txt.split z "\n").map tl = spl [10] 0 [] (tl z) := split_spl z "\n" (by decide) (kind_ok (by decide +kernel))
  obtain ⟨k1, k2, k3⟩ := key (tl z) []
  rw [← e] at k1 k2 k3
  refine ⟨fun h => k1 (by rw [h]; rfl), ?_, fun ok x hx c hc => ?_⟩
  · rw [List.map_map, List.length_map] at k2
    have c : ((List.length ∘ tl) : Str → Nat) = fun x => x.length := funext fun x => (len_tl x).symm
    rw [c] at k2
    unfold tot
    rw [k2, List.length_nil, len_tl z]
    omega
  · rcases k3 (tl x) (List.mem_map_of_mem hx) c hc with q | q
    · cases q
    · exact ok c q
end SH
set_option Elab.async false
set_option linter.all false
set_option maxRecDepth 100000
set_option maxHeartbeats 4000000
/-! a op1 b op2 c op3 d -/
namespace SH
open PySem PySem.Spec PyProof.Rows L2
section
variable {X : Cx} {a b c d : Expr} {ta tb tc td : TE} {pos : Pos}
def tChain3 (r r' r'' : R2) (ta tb tc td : TE) : TE := fun σ H Q => ta σ H fun x H1 => tb σ H1 fun y H2 => r x y H2 fun z H3 => ∃ k, z = .bl k ∧
  (if k = true then tc σ H3 fun w' H4 => r' y w' H4 fun z' H5 => ∃ k', z' = .bl k' ∧ (if k' = true then td σ H5 fun u' H6 => r'' w' u' H6 Q else Q (.bl false) H5) else Q (.bl false) H3)
theorem pe_chain3 {op op' op'' : CmpOp} {r r' r'' : R2} (ho : OpR X (compareOp op) r) (ho' : OpR X (compareOp op') r') (ho'' : OpR X (compareOp op'') r'') (ha : PE X a ta) (hb : PE X b tb) (hc : PE X c tc) (hd : PE X d td)
    (hm : lastMarks [op, op', op''] [b, c, d] = false := by with_unfolding_all rfl) : PE X (.Compare a [op, op', op''] [b, c, d] pos) (tChain3 r r' r'' ta tb tc td) := by
  refine ⟨fun pins s σ H Q I h => ?_⟩
  refine Compare_chain (thn (ha.run pins s σ H _ I h) fun v s1 ⟨x, H1, I1, r1, q1⟩ => chain_link (thn (hb.run pins s1 σ H1 _ I1 q1) fun u s2 ⟨y, H2, I2, r2, q2⟩ =>
    thn (ho pins s2 σ H2 x y v u _ I2 r1 r2 q2) fun d s3 ⟨z, H3, I3, r3, k, e, q3⟩ => ?_)) hm
  subst e
  cases r3
  refine wpAny_truthy_bool ?_
  cases k with
  | false => exact ite_ff ⟨.bl false, H3, I3, rfl, q3⟩
  | true =>
    refine ite_tt (chain_link (thn (hc.run pins s3 σ H3 _ I3 q3) fun u3 s4 ⟨y3, H4, I4, r4, q4⟩ => thn (ho' pins s4 σ H4 y y3 u u3 _ I4 r2 r4 q4) fun d5 s5 ⟨z5, H5, I5, r5, k5, e5, q5⟩ => ?_))
    subst e5
    cases r5
    refine wpAny_truthy_bool ?_
    cases k5 with
    | false => exact ite_ff ⟨.bl false, H5, I5, rfl, q5⟩
    | true => exact ite_tt (chain_last (thn (hd.run pins s5 σ H5 _ I5 q5) fun w' s6 ⟨z', H6, I6, r6, q6⟩ => ho'' pins s6 σ H6 y3 z' u3 w' Q I6 r4 r6 q6))
theorem pt_chain3 {op op' op'' : CmpOp} {r r' r'' : R2} (ho : OpR X (compareOp op) r) (ho' : OpR X (compareOp op') r') (ho'' : OpR X (compareOp op'') r'') (ha : PE X a ta) (hb : PE X b tb) (hc : PE X c tc) (hd : PE X d td)
    (hm : lastMarks [op, op', op''] [b, c, d] = false := by with_unfolding_all rfl) : PT X (.Compare a [op, op', op''] [b, c, d] pos) (tTest (tChain3 r r' r'' ta tb tc td)) := by
  refine ⟨fun pins s σ H Q I h => ?_⟩
  refine isTrue_chain (thn (ha.run pins s σ H _ I h) fun v s1 ⟨x, H1, I1, r1, q1⟩ => test_link (thn (hb.run pins s1 σ H1 _ I1 q1) fun u s2 ⟨y, H2, I2, r2, q2⟩ =>
    thn (ho pins s2 σ H2 x y v u _ I2 r1 r2 q2) fun d s3 ⟨z, H3, I3, r3, k, e, q3⟩ => ?_)) hm
  subst e
  cases r3
  refine wpAny_truthy_bool ?_
  cases k with
  | false =>
    obtain ⟨k', e', q'⟩ := q3
    cases e'
    exact ite_ff ⟨H3, I3, q'⟩
  | true =>
    refine ite_tt (test_link (thn (hc.run pins s3 σ H3 _ I3 q3) fun u3 s4 ⟨y3, H4, I4, r4, q4⟩ => thn (ho' pins s4 σ H4 y y3 u u3 _ I4 r2 r4 q4) fun d5 s5 ⟨z5, H5, I5, r5, k5, e5, q5⟩ => ?_))
    subst e5
    cases r5
    refine wpAny_truthy_bool ?_
    cases k5 with
    | false =>
      obtain ⟨k', e', q'⟩ := q5
      cases e'
      exact ite_ff ⟨H5, I5, q'⟩
    | true =>
      refine ite_tt (test_last (thn (hd.run pins s5 σ H5 _ I5 q5) fun w' s6 ⟨z', H6, I6, r6, q6⟩ => thn (ho'' pins s6 σ H6 y3 z' u3 w' _ I6 r4 r6 q6) fun d' s7 ⟨z2, H7, I7, r7, k2, e2, q7⟩ => ?_))
      subst e2
      cases r7
      exact wpAny_truthy_bool ⟨H7, I7, q7⟩
end
end SH
set_option Elab.async false
set_option linter.all false
set_option maxRecDepth 100000
set_option maxHeartbeats 4000000
/-! a op1 b op2 c op3 d op4 e -/
namespace SH
open PySem PySem.Spec PyProof.Rows L2
section
variable {X : Cx} {a b c d f : Expr} {ta tb tc td tf : TE} {pos : Pos}
def tChain4 (r r' r'' r3 : R2) (ta tb tc td tf : TE) : TE := fun σ H Q => ta σ H fun x H1 => tb σ H1 fun y H2 => r x y H2 fun z H3 => ∃ k, z = .bl k ∧
  (if k = true then tc σ H3 fun w' H4 => r' y w' H4 fun z' H5 => ∃ k', z' = .bl k' ∧ (if k' = true then td σ H5 fun u' H6 => r'' w' u' H6 fun z2 H7 => ∃ k2, z2 = .bl k2 ∧
    (if k2 = true then tf σ H7 fun w2 H8 => r3 u' w2 H8 Q else Q (.bl false) H7) else Q (.bl false) H5) else Q (.bl false) H3)
theorem pe_chain4 {op op' op'' op3 : CmpOp} {r r' r'' r3 : R2} (ho : OpR X (compareOp op) r) (ho' : OpR X (compareOp op') r') (ho'' : OpR X (compareOp op'') r'') (ho3 : OpR X (compareOp op3) r3) (ha : PE X a ta) (hb : PE X b tb) (hc : PE X c tc) (hd : PE X d td) (hf : PE X f tf)
    (hm : lastMarks [op, op', op'', op3] [b, c, d, f] = false := by with_unfolding_all rfl) : PE X (.Compare a [op, op', op'', op3] [b, c, d, f] pos) (tChain4 r r' r'' r3 ta tb tc td tf) := by
  refine ⟨fun pins s σ H Q I h => ?_⟩
  refine Compare_chain (thn (ha.run pins s σ H _ I h) fun v s1 ⟨x, H1, I1, r1, q1⟩ => chain_link (thn (hb.run pins s1 σ H1 _ I1 q1) fun u s2 ⟨y, H2, I2, r2, q2⟩ =>
    thn (ho pins s2 σ H2 x y v u _ I2 r1 r2 q2) fun d s3 ⟨z, H3, I3, r3, k, e, q3⟩ => ?_)) hm
  subst e
  cases r3
  refine wpAny_truthy_bool ?_
  cases k with
  | false => exact ite_ff ⟨.bl false, H3, I3, rfl, q3⟩
  | true =>
    refine ite_tt (chain_link (thn (hc.run pins s3 σ H3 _ I3 q3) fun u3 s4 ⟨y3, H4, I4, r4, q4⟩ => thn (ho' pins s4 σ H4 y y3 u u3 _ I4 r2 r4 q4) fun d5 s5 ⟨z5, H5, I5, r5, k5, e5, q5⟩ => ?_))
    subst e5
    cases r5
    refine wpAny_truthy_bool ?_
    cases k5 with
    | false => exact ite_ff ⟨.bl false, H5, I5, rfl, q5⟩
    | true =>
      refine ite_tt (chain_link (thn (hd.run pins s5 σ H5 _ I5 q5) fun u6 s6 ⟨y6, H6, I6, r6, q6⟩ => thn (ho'' pins s6 σ H6 y3 y6 u3 u6 _ I6 r4 r6 q6) fun d7 s7 ⟨z7, H7, I7, r7, k7, e7, q7⟩ => ?_))
      subst e7
      cases r7
      refine wpAny_truthy_bool ?_
      cases k7 with
      | false => exact ite_ff ⟨.bl false, H7, I7, rfl, q7⟩
      | true => exact ite_tt (chain_last (thn (hf.run pins s7 σ H7 _ I7 q7) fun w' s8 ⟨z', H8, I8, r8, q8⟩ => ho3 pins s8 σ H8 y6 z' u6 w' Q I8 r6 r8 q8))
theorem pt_chain4 {op op' op'' op3 : CmpOp} {r r' r'' r3 : R2} (ho : OpR X (compareOp op) r) (ho' : OpR X (compareOp op') r') (ho'' : OpR X (compareOp op'') r'') (ho3 : OpR X (compareOp op3) r3) (ha : PE X a ta) (hb : PE X b tb) (hc : PE X c tc) (hd : PE X d td) (hf : PE X f tf)
    (hm : lastMarks [op, op', op'', op3] [b, c, d, f] = false := by with_unfolding_all rfl) : PT X (.Compare a [op, op', op'', op3] [b, c, d, f] pos) (tTest (tChain4 r r' r'' r3 ta tb tc td tf)) := by
  refine ⟨fun pins s σ H Q I h => ?_⟩
  refine isTrue_chain (thn (ha.run pins s σ H _ I h) fun v s1 ⟨x, H1, I1, r1, q1⟩ => test_link (thn (hb.run pins s1 σ H1 _ I1 q1) fun u s2 ⟨y, H2, I2, r2, q2⟩ =>
    thn (ho pins s2 σ H2 x y v u _ I2 r1 r2 q2) fun d s3 ⟨z, H3, I3, r3, k, e, q3⟩ => ?_)) hm
  subst e
  cases r3
  refine wpAny_truthy_bool ?_
  cases k with
  | false =>
    obtain ⟨k', e', q'⟩ := q3
    cases e'
    exact ite_ff ⟨H3, I3, q'⟩
  | true =>
    refine ite_tt (test_link (thn (hc.run pins s3 σ H3 _ I3 q3) fun u3 s4 ⟨y3, H4, I4, r4, q4⟩ => thn (ho' pins s4 σ H4 y y3 u u3 _ I4 r2 r4 q4) fun d5 s5 ⟨z5, H5, I5, r5, k5, e5, q5⟩ => ?_))
    subst e5
    cases r5
    refine wpAny_truthy_bool ?_
    cases k5 with
    | false =>
      obtain ⟨k', e', q'⟩ := q5
      cases e'
      exact ite_ff ⟨H5, I5, q'⟩
    | true =>
      refine ite_tt (test_link (thn (hd.run pins s5 σ H5 _ I5 q5) fun u6 s6 ⟨y6, H6, I6, r6, q6⟩ => thn (ho'' pins s6 σ H6 y3 y6 u3 u6 _ I6 r4 r6 q6) fun d7 s7 ⟨z7, H7, I7, r7, k7, e7, q7⟩ => ?_))
      subst e7
      cases r7
      refine wpAny_truthy_bool ?_
      cases k7 with
      | false =>
        obtain ⟨k', e', q'⟩ := q7
        cases e'
        exact ite_ff ⟨H7, I7, q'⟩
      | true =>
        refine ite_tt (test_last (thn (hf.run pins s7 σ H7 _ I7 q7) fun w' s8 ⟨z', H8, I8, r8, q8⟩ => thn (ho3 pins s8 σ H8 y6 z' u6 w' _ I8 r6 r8 q8) fun d' s9 ⟨z2, H9, I9, r9, k2, e2, q9⟩ => ?_))
        subst e2
        cases r9
        exact wpAny_truthy_bool ⟨H9, I9, q9⟩
end
end SH
set_option Elab.async false
set_option linter.all false
set_option maxRecDepth 100000
set_option maxHeartbeats 4000000
/-! the order with a text more, and without one -/
namespace SH
open PySem PySem.Spec PyProof.Rows L2
/-- the ends of a text in order -/
def fresh (q : Int × Str) : List E3 := (endsOf q).mergeSort le3
theorem fresh_pw (q : Int × Str) : (fresh q).Pairwise (fun a b => le3 a b = true) := sort3_pw _
theorem ends3_perm {h k : List (Int × Str)} (p : h.Perm k) : (ends3 h).Perm (ends3 k) := p.flatMap_right _
theorem mrg_is {h k : List (Int × Str)} {q : Int × Str} (p : k.Perm (h ++ [q])) : List.merge (ordE h) (fresh q) le3 = ordE k := by
  refine sorted3_uniq ?_ (List.pairwise_merge (fun p q r => le3_tr p q r) (fun p q => le3_tot p q) _ _ (sort3_pw _) (fresh_pw q)) (ordE_pw k)
  refine List.Perm.trans (List.merge_perm_append le3) (((List.mergeSort_perm _ _).append (List.mergeSort_perm _ _)).trans ?_)
  rw [← ends3_snoc]
  exact (ends3_perm p.symm).trans (List.mergeSort_perm _ _).symm
theorem mrg_lt {e f : E3} {E F : List E3} (h : lex3 f e) : List.merge (e :: E) (f :: F) le3 = f :: List.merge (e :: E) F le3 := by
  rw [List.cons_merge_cons, if_neg]
  unfold le3
  rw [decide_eq_true h]
  decide
theorem mrg_ge {e f : E3} {E F : List E3} (h : ¬ lex3 f e) : List.merge (e :: E) (f :: F) le3 = e :: List.merge E (f :: F) le3 := by
  rw [List.cons_merge_cons, if_pos]
  unfold le3
  rw [decide_eq_false h]
  rfl
theorem mrg_nil (e : E3) (E : List E3) : List.merge (e :: E) [] le3 = e :: List.merge E [] le3 := by
  simp
/-- the order without the ends of a text -/
theorem ordE_filter {h : List (Int × Str)} (n : Int) : (ordE h).filter (fun e => decide (e.2.1 ≠ n)) = ordE (h.filter fun q => decide (q.1 ≠ n)) := by
  refine sorted3_uniq (((List.mergeSort_perm _ _).filter _).trans ?_) ((ordE_pw h).filter _) (ordE_pw _)
  refine List.Perm.trans ?_ (List.mergeSort_perm _ _).symm
  have : (ends3 h).filter (fun e => decide (e.2.1 ≠ n)) = ends3 (h.filter fun q => decide (q.1 ≠ n)) := by
    induction h with
    | nil => rfl
    | cons q r ih =>
      have e : ends3 (q :: r) = endsOf q ++ ends3 r := rfl
      rw [e, List.filter_append, ih]
      by_cases c : q.1 ≠ n
      · rw [List.filter_cons_of_pos (by simpa using c)]
        have e2 : ends3 (q :: r.filter fun q => decide (q.1 ≠ n)) = endsOf q ++ ends3 (r.filter fun q => decide (q.1 ≠ n)) := rfl
        rw [e2]
        congr 1
        refine List.filter_eq_self.mpr fun x hx => ?_
        obtain ⟨s, _, rfl⟩ := mem_endsOf.mp hx
        exact decide_eq_true c
      · rw [List.filter_cons_of_neg (by simpa using c)]
        have : (endsOf q).filter (fun e => decide (e.2.1 ≠ n)) = [] := List.filter_eq_nil_iff.mpr fun x hx => by
          obtain ⟨s, _, rfl⟩ := mem_endsOf.mp hx
          simpa using c
        rw [this, List.nil_append]
  rw [this]
theorem ins_mem {n : Int} {z : Str} {h : List (Int × Str)} (hn : n ∉ h.map (·.1)) {q : Int × Str} (hq : q ∈ h) : q ∈ ins n z h := (ins_perm hn).mem_iff.mpr (List.mem_append_left _ hq)
theorem cut_1 (n s : Int) (x : Str) : cutV [V.str x, .int n, .int s] (some 1) none = [.int n, .int s] := rfl
theorem ins_len {n : Int} {z : Str} {h : List (Int × Str)} (hn : n ∉ h.map (·.1)) : (ins n z h).length = h.length + 1 := by
  rw [(ins_perm hn).length_eq, List.length_append]
  rfl
end SH
set_option Elab.async false
set_option linter.all false
set_option maxRecDepth 100000
set_option maxHeartbeats 4000000
/-! what is told: a tag and a thing -/
namespace SH
open PySem PySem.Spec PyProof.Rows L2
/-- the texts that are tried: letters, or a newline among them -/
def Tryable (z : Str) : Prop := z.length ≤ 1000 ∧ isTxt z = (decide (z.length ≤ 40) && !decide (10 ∈ z.cps.toList)) ∧ PyData.strOk z = true
theorem tryable_let {z : Str} (h : IsLet z) (hl : z.length ≤ 40) : Tryable z := by
  refine ⟨Nat.le_trans hl (by decide), ?_, let_ok h⟩
  have e1 : isTxt z = true := by
    unfold isTxt
    rw [decide_eq_true hl]
    exact h
  have e2 : decide (10 ∈ z.cps.toList) = false := decide_eq_false fun m => absurd (List.all_eq_true.mp h 10 m) (by decide)
  rw [e1, e2, decide_eq_true hl]
  rfl
theorem tryable_big {z : Str} (h : IsLet z) (hl : z.length ≤ 1000) (hg : 40 < z.length) : Tryable z := by
  refine ⟨hl, ?_, let_ok h⟩
  rw [isTxt_long hg, decide_eq_false (by omega)]
  rfl
theorem tryable_any {z : Str} (h : IsLet z) (hl : z.length ≤ 1000) : Tryable z := by
  rcases Nat.lt_or_ge 40 z.length with c | c
  · exact tryable_big h hl c
  · exact tryable_let h c
theorem tryable_nl {z : Str} (h : IsLet z) (hl : z.length ≤ 900) : Tryable (z ++ "\n") := by
  have e : (z ++ "\n" : Str).cps.toList = z.cps.toList ++ [10] := TL.tl_append z "\n"
  have m : 10 ∈ (z ++ "\n" : Str).cps.toList := by rw [e]; simp
  have l : (z ++ "\n" : Str).length = z.length + 1 := len_app z "\n"
  refine ⟨by omega, ?_, ?_⟩
  · rw [isTxt_line m, decide_eq_true m]
    simp
  · unfold PyData.strOk
    rw [← Array.all_toList, e]
    refine List.all_eq_true.mpr fun c hc => ?_
    rcases List.mem_append.mp hc with m | m
    · have := okc_lt (List.all_eq_true.mp h c m)
      exact decide_eq_true (by omega)
    · rw [List.mem_singleton.mp m]
      rfl
theorem join_let {n : Nat} : IsLet (Txt.join "" (List.replicate n (⟨#[97]⟩ : Str))) := List.all_eq_true.mpr fun c hc => by rw [join_mem hc]; rfl
def Due (K : PySem.W.Frag) (H' : Hp) (v : V) (p : Str × PyData) : Prop := ∃ (t : Addr) (x : V), v = .ref t ∧ H' t = some (.tup [.str p.1, x]) ∧ Dp K H' x p.2
theorem Due.of {K : PySem.W.Frag} {H' : Hp} {v : V} {p q : Str × PyData} (e : p = q) (h : Due K H' v p) : Due K H' v q := e ▸ h
theorem Due.dp {K : PySem.W.Frag} {H' : Hp} {v : V} {p : Str × PyData} (h : Due K H' v p) : Dp K H' v (dT p) := by
  obtain ⟨t, x, rfl, h1, h2⟩ := h
  exact .tup (.inl (.inl h1)) (.cons (.str _) (.cons h2 .nil))
theorem Due.same {K : PySem.W.Frag} {H H' : Hp} {v : V} {p : Str × PyData} (s : Same H H') (h : Due K H v p) : Due K H' v p := by
  obtain ⟨t, x, rfl, h1, h2⟩ := h
  exact ⟨t, x, rfl, s _ _ h1, dp_same s h2⟩
theorem dT_ok {p : Str × PyData} (h1 : PyData.strOk p.1 = true) (h2 : Okd p.2) : SeqAt.shaped (dT p) = true ∧ PyData.eqv (dT p) (dT p) = true := dT_shaped h1 h2.1 h2.2
end SH
set_option Elab.async false
set_option linter.all false
set_option maxRecDepth 100000
set_option maxHeartbeats 4000000
/-! near places: four numbers each -/
namespace SH
open PySem PySem.Spec PyProof.Rows L2
theorem min9 (A B C D F G H J K c c0 : Nat) : min (min (A + 1) (min (B + 1) (C + c)) + 1) (min (min (D + 1) (min (F + 1) (G + c)) + 1) (min (H + 1) (min (J + 1) (K + c)) + c0)) = min (min (A + 1) (min (D + 1) (H + c0)) + 1) (min (min (B + 1) (min (F + 1) (J + c0)) + 1) (min (C + 1) (min (G + 1) (K + c0)) + c)) := by
  have key : ∀ t, t ≤ min (min (A + 1) (min (B + 1) (C + c)) + 1) (min (min (D + 1) (min (F + 1) (G + c)) + 1) (min (H + 1) (min (J + 1) (K + c)) + c0)) ↔ t ≤ min (min (A + 1) (min (D + 1) (H + c0)) + 1) (min (min (B + 1) (min (F + 1) (J + c0)) + 1) (min (C + 1) (min (G + 1) (K + c0)) + c)) := fun t => by
    simp only [← Nat.add_min_add_right, Nat.le_min]
    constructor
    · rintro ⟨⟨h1, h2, h3⟩, ⟨h4, h5, h6⟩, h7, h8, h9⟩
      refine ⟨⟨?_, ?_, ?_⟩, ⟨?_, ?_, ?_⟩, ?_, ?_, ?_⟩ <;> omega
    · rintro ⟨⟨h1, h2, h3⟩, ⟨h4, h5, h6⟩, h7, h8, h9⟩
      refine ⟨⟨?_, ?_, ?_⟩, ⟨?_, ?_, ?_⟩, ?_, ?_, ?_⟩ <;> omega
  exact Nat.le_antisymm ((key _).mp (Nat.le_refl _)) ((key _).mpr (Nat.le_refl _))
theorem ed_snoc (a b : Nat) : ∀ (x y : List Nat), ed (x ++ [a]) (y ++ [b]) = min (ed x (y ++ [b]) + 1) (min (ed (x ++ [a]) y + 1) (ed x y + if a = b then 0 else 1))
  | [], [] => by
    show ed [a] [b] = _
    rw [ed_cons]
    rfl
  | [], b0 :: y => by
    have ih := ed_snoc a b [] y
    have e1 : ed ([] ++ [a]) (b0 :: y ++ [b]) = min (ed [] (b0 :: y ++ [b]) + 1) (min (ed [a] (y ++ [b]) + 1) (ed [] (y ++ [b]) + if a = b0 then 0 else 1)) := ed_cons ..
    have e2 : ed ([] ++ [a]) (b0 :: y) = min (ed [] (b0 :: y) + 1) (min (ed [a] y + 1) (ed [] y + if a = b0 then 0 else 1)) := ed_cons ..
    have ih : ed [a] (y ++ [b]) = min (ed [] (y ++ [b]) + 1) (min (ed [a] y + 1) (ed [] y + if a = b then 0 else 1)) := ih
    rw [e1, e2, ih]
    simp only [ed_nil, List.length_append, List.length_cons, List.length_nil]
    omega
  | a0 :: x, [] => by
    have ih := ed_snoc a b x []
    have e1 : ed (a0 :: x ++ [a]) ([] ++ [b]) = min (ed (x ++ [a]) [b] + 1) (min (ed (a0 :: x ++ [a]) [] + 1) (ed (x ++ [a]) [] + if a0 = b then 0 else 1)) := ed_cons ..
    have e2 : ed (a0 :: x) ([] ++ [b]) = min (ed x [b] + 1) (min (ed (a0 :: x) [] + 1) (ed x [] + if a0 = b then 0 else 1)) := ed_cons ..
    have ih : ed (x ++ [a]) [b] = min (ed x [b] + 1) (min (ed (x ++ [a]) [] + 1) (ed x [] + if a = b then 0 else 1)) := ih
    rw [e1, e2, ih]
    simp only [ed_nil2, List.length_append, List.length_cons, List.length_nil]
    omega
  | a0 :: x, b0 :: y => by
    have i1 := ed_snoc a b x (b0 :: y)
    have i2 := ed_snoc a b (a0 :: x) y
    have i3 := ed_snoc a b x y
    have e1 : ed (a0 :: x ++ [a]) (b0 :: y ++ [b]) = min (ed (x ++ [a]) (b0 :: y ++ [b]) + 1) (min (ed (a0 :: x ++ [a]) (y ++ [b]) + 1) (ed (x ++ [a]) (y ++ [b]) + if a0 = b0 then 0 else 1)) := ed_cons ..
    have e2 : ed (a0 :: x) (b0 :: y ++ [b]) = min (ed x (b0 :: y ++ [b]) + 1) (min (ed (a0 :: x) (y ++ [b]) + 1) (ed x (y ++ [b]) + if a0 = b0 then 0 else 1)) := ed_cons ..
    have e3 : ed (a0 :: x ++ [a]) (b0 :: y) = min (ed (x ++ [a]) (b0 :: y) + 1) (min (ed (a0 :: x ++ [a]) y + 1) (ed (x ++ [a]) y + if a0 = b0 then 0 else 1)) := ed_cons ..
    have e4 : ed (a0 :: x) (b0 :: y) = min (ed x (b0 :: y) + 1) (min (ed (a0 :: x) y + 1) (ed x y + if a0 = b0 then 0 else 1)) := ed_cons ..
    rw [e1, e2, e3, e4, i1, i2, i3]
    exact min9 _ _ _ _ _ _ _ _ _ _ _
termination_by x y => x.length + y.length
abbrev Q4 := Int × Int × Int × Int
abbrev RT := List (Addr × Q4)
def v4 (q : Q4) : List V := [.int q.1, .int q.2.1, .int q.2.2.1, .int q.2.2.2]
def refs4 (R : RT) : List V := R.map fun r => V.ref r.1
def T4At (K : PySem.W.Frag) (H : Hp) (R : RT) : Prop := ∀ r ∈ R, SqT K H r.1 (v4 r.2)
theorem T4At.same {K : PySem.W.Frag} {H H' : Hp} {R : RT} (s : Same H H') (h : T4At K H R) : T4At K H' R := fun r m => same_tup s (h r m)
theorem refs4_at {R : RT} {i : Nat} {x : V} (h : (refs4 R)[i]? = some x) : ∃ t, R[i]? = some t ∧ t ∈ R ∧ x = .ref t.1 := by
  unfold refs4 at h
  rw [List.getElem?_map] at h
  cases e : R[i]? with
  | none => rw [e] at h; cases h
  | some y => rw [e] at h; exact ⟨y, rfl, List.mem_of_getElem? e, (Option.some.inj h).symm⟩
theorem refs4_len (R : RT) : (refs4 R).length = R.length := List.length_map ..
theorem refs4_app (R S : RT) : refs4 (R ++ S) = refs4 R ++ refs4 S := List.map_append ..
def d4 (q : Q4) : PyData := .tuple [.int q.1, .int q.2.1, .int q.2.2.1, .int q.2.2.2]
def dR4 (l : List Q4) : PyData := .list (l.map d4)
theorem dp_4 {K : PySem.W.Frag} {H : Hp} {a : Addr} {q : Q4} (h : SqT K H a (v4 q)) : Dp K H (.ref a) (d4 q) := .tup h (.cons (.int _) (.cons (.int _) (.cons (.int _) (.cons (.int _) .nil))))
theorem dp_r4s {K : PySem.W.Frag} {H : Hp} : ∀ (R : RT), T4At K H R → DpAll K H (refs4 R) ((R.map (·.2)).map d4)
  | [], _ => .nil
  | r :: R, h => .cons (dp_4 (h r (List.mem_cons_self ..))) (dp_r4s R fun x m => h x (List.mem_cons_of_mem _ m))
theorem dp_r4 {K : PySem.W.Frag} {H : Hp} {a : Addr} {R : RT} (h : SqL K H a (refs4 R)) (hq : T4At K H R) : Dp K H (.ref a) (dR4 (R.map (·.2))) := .lst h (dp_r4s R hq)
theorem okd_4 (q : Q4) : Okd (d4 q) := okd_tup (fun d m => by
  simp only [List.mem_cons, List.not_mem_nil, or_false] at m
  rcases m with e | e | e | e <;> subst e <;> rfl) (fun d m => by
  simp only [List.mem_cons, List.not_mem_nil, or_false] at m
  rcases m with e | e | e | e <;> subst e <;> exact Nat.zero_le _)
theorem okd_r4 (l : List Q4) : Okd (dR4 l) := okd_list (fun d m => by
  obtain ⟨q, _, rfl⟩ := List.mem_map.mp m
  exact (okd_4 q).1) fun d m => by
  obtain ⟨q, _, rfl⟩ := List.mem_map.mp m
  show max 0 (max 0 (max 0 (max 0 0))) + 1 ≤ 59
  decide
/-! ### their order -/
def lex4 (p q : Q4) : Prop := p.1 < q.1 ∨ (p.1 = q.1 ∧ (p.2.1 < q.2.1 ∨ (p.2.1 = q.2.1 ∧ (p.2.2.1 < q.2.2.1 ∨ (p.2.2.1 = q.2.2.1 ∧ p.2.2.2 < q.2.2.2)))))
instance (p q : Q4) : Decidable (lex4 p q) := inferInstanceAs (Decidable (_ ∨ _))
def le4 (p q : Q4) : Bool := !decide (lex4 q p)
theorem lt_4 (p q : Q4) : PySem.W.dataLt (d4 p) (d4 q) = decide (lex4 p q) := by
  unfold d4
  rw [PySem.W.dataLt_tuple, PySem.W.dataLt_cons (by simp [PySem.W.alike]), PySem.W.dataLt_cons (by simp [PySem.W.alike]), PySem.W.dataLt_cons (by simp [PySem.W.alike]), PySem.W.dataLt_cons (by simp [PySem.W.alike])]
  have e : PyProof.Rows.lexLt itemOrd (PySem.W.keyToksAll []) (PySem.W.keyToksAll []) = false := lex_irrefl _
  rw [e, eqv_int, eqv_int, eqv_int, eqv_int, PySem.W.dataLt_int, PySem.W.dataLt_int, PySem.W.dataLt_int, PySem.W.dataLt_int]
  unfold lex4
  by_cases a : p.1 = q.1
  · by_cases b : p.2.1 = q.2.1
    · by_cases c : p.2.2.1 = q.2.2.1
      · by_cases d : p.2.2.2 = q.2.2.2
        · simp [a, b, c, d]
        · simp [a, b, c, d]
      · simp [a, b, c]
    · simp [a, b]
  · simp [a]
theorem le_4 {β : Type} (f : β → Q4) : PySem.W.dataLe false (fun b => d4 (f b)) = fun p q => le4 (f p) (f q) := by
  funext p q
  show (!PySem.W.dataLt (d4 (f q)) (d4 (f p))) = _
  rw [lt_4]
  rfl
theorem alike_4 {β : Type} (f : β → Q4) (bs : List β) : PySem.W.AllAlike (bs.map fun b => d4 (f b)) := PySem.W.AllAlike.of fun b b' => by simp [d4, PySem.W.alike, PySem.W.alikeAll]
theorem able_4 {β : Type} (f : β → Q4) (bs : List β) : PySem.W.Sortable (bs.map fun b => d4 (f b)) := PySem.W.Sortable.tuples fun b => ⟨_, _, rfl⟩
theorem deep_4 (p : Q4) : (d4 p).depth ≤ 60 := by
  show max 0 (max 0 (max 0 (max 0 0))) + 1 ≤ 60
  decide
theorem le4_iff {p q : Q4} : le4 p q = true ↔ ¬ lex4 q p := by
  unfold le4
  rw [Bool.not_eq_true', decide_eq_false_iff_not]
theorem le4_tr (p q r : Q4) (h : le4 p q = true) (h2 : le4 q r = true) : le4 p r = true := by
  rw [le4_iff] at *
  unfold lex4 at *
  omega
theorem le4_tot (p q : Q4) : (le4 p q || le4 q p) = true := by
  rw [Bool.or_eq_true, le4_iff, le4_iff]
  unfold lex4
  omega
/-! ### all places with their distances -/
def cutW (t : List Nat) (i j : Nat) : List Nat := (t.take j).drop i
def row4 (z : Str) (q : Int × Str) (i j : Nat) : Q4 := (q.1, (i : Int), (j : Int), ((ed (TL.tl z) (cutW (TL.tl q.2) i j) : Nat) : Int))
def rowsI (z : Str) (q : Int × Str) (i : Nat) : List Q4 := (List.range (q.2.length + 1 - i)).map fun k => row4 z q i (i + k)
def rowsQ (z : Str) (q : Int × Str) : List Q4 := (List.range (q.2.length + 1)).flatMap (rowsI z q)
def allR (h : List (Int × Str)) (z : Str) : List Q4 := h.flatMap (rowsQ z)
def fndJ (z : Str) (q : Int × Str) (j : Nat) : List Q4 := (List.range (j + 1)).map fun i => row4 z q i j
def fndQ (z : Str) (q : Int × Str) : List Q4 := (List.range (q.2.length + 1)).flatMap (fndJ z q)
def fnd (h : List (Int × Str)) (z : Str) : List Q4 := h.flatMap (fndQ z)
theorem mem_rowsQ {z : Str} {q : Int × Str} {x : Q4} : x ∈ rowsQ z q ↔ ∃ i j, i ≤ j ∧ j ≤ q.2.length ∧ x = row4 z q i j := by
  unfold rowsQ rowsI
  rw [List.mem_flatMap]
  constructor
  · rintro ⟨i, hi, hx⟩
    obtain ⟨k, hk, rfl⟩ := List.mem_map.mp hx
    have := List.mem_range.mp hi
    have := List.mem_range.mp hk
    exact ⟨i, i + k, by omega, by omega, rfl⟩
  · rintro ⟨i, j, h1, h2, rfl⟩
    exact ⟨i, List.mem_range.mpr (by omega), List.mem_map.mpr ⟨j - i, List.mem_range.mpr (by omega), by rw [show i + (j - i) = j by omega]⟩⟩
theorem mem_fndQ {z : Str} {q : Int × Str} {x : Q4} : x ∈ fndQ z q ↔ ∃ i j, i ≤ j ∧ j ≤ q.2.length ∧ x = row4 z q i j := by
  unfold fndQ fndJ
  rw [List.mem_flatMap]
  constructor
  · rintro ⟨j, hj, hx⟩
    obtain ⟨i, hi, rfl⟩ := List.mem_map.mp hx
    have := List.mem_range.mp hi
    have := List.mem_range.mp hj
    exact ⟨i, j, by omega, by omega, rfl⟩
  · rintro ⟨i, j, h1, h2, rfl⟩
    exact ⟨j, List.mem_range.mpr (by omega), List.mem_map.mpr ⟨i, List.mem_range.mpr (by omega), rfl⟩⟩
theorem allR_mem {h : List (Int × Str)} {z : Str} {x : Q4} : x ∈ allR h z ↔ x ∈ fnd h z := by
  unfold allR fnd
  rw [List.mem_flatMap, List.mem_flatMap]
  constructor
  · rintro ⟨q, hq, hx⟩
    exact ⟨q, hq, mem_fndQ.mpr (mem_rowsQ.mp hx)⟩
  · rintro ⟨q, hq, hx⟩
    exact ⟨q, hq, mem_rowsQ.mpr (mem_fndQ.mp hx)⟩
theorem range_lt (n : Nat) : (List.range n).Pairwise (· < ·) := List.pairwise_lt_range
theorem allR_pw {h : List (Int × Str)} (asc : (h.map (·.1)).Pairwise (· < ·)) (z : Str) : (allR h z).Pairwise lex4 := by
  unfold allR
  rw [List.pairwise_flatMap]
  rw [List.pairwise_map] at asc
  refine ⟨fun q hq => ?_, asc.imp fun {a b} hab x hx y hy => ?_⟩
  · unfold rowsQ
    rw [List.pairwise_flatMap]
    refine ⟨fun i hi => ?_, (range_lt _).imp fun {i j} hij x hx y hy => ?_⟩
    · unfold rowsI
      rw [List.pairwise_map]
      refine (range_lt _).imp fun {k l} hkl => .inr ⟨rfl, .inr ⟨rfl, .inl ?_⟩⟩
      show ((i + k : Nat) : Int) < ((i + l : Nat) : Int)
      omega
    · obtain ⟨k, _, rfl⟩ := List.mem_map.mp hx
      obtain ⟨l, _, rfl⟩ := List.mem_map.mp hy
      refine .inr ⟨rfl, .inl ?_⟩
      show (i : Int) < (j : Int)
      omega
  · obtain ⟨i, j, _, _, rfl⟩ := mem_rowsQ.mp hx
    obtain ⟨i', j', _, _, rfl⟩ := mem_rowsQ.mp hy
    exact .inl hab
theorem fnd_nodup {h : List (Int × Str)} (asc : (h.map (·.1)).Pairwise (· < ·)) (z : Str) : (fnd h z).Nodup := by
  unfold fnd List.Nodup
  rw [List.pairwise_flatMap]
  rw [List.pairwise_map] at asc
  refine ⟨fun q hq => ?_, asc.imp fun {a b} hab x hx y hy e => ?_⟩
  · unfold fndQ
    rw [List.pairwise_flatMap]
    refine ⟨fun j hj => ?_, (range_lt _).imp fun {i j} hij x hx y hy e => ?_⟩
    · unfold fndJ
      rw [List.pairwise_map]
      refine (range_lt _).imp fun {k l} hkl e => ?_
      have e : (k : Int) = l := congrArg (fun q : Q4 => q.2.1) e
      exact absurd (Int.ofNat.inj e) (Nat.ne_of_lt hkl)
    · obtain ⟨k, _, rfl⟩ := List.mem_map.mp hx
      obtain ⟨l, _, rfl⟩ := List.mem_map.mp hy
      have e : (i : Int) = j := congrArg (fun q : Q4 => q.2.2.1) e
      exact absurd (Int.ofNat.inj e) (Nat.ne_of_lt hij)
  · obtain ⟨i, j, _, _, rfl⟩ := mem_fndQ.mp hx
    obtain ⟨i', j', _, _, rfl⟩ := mem_fndQ.mp hy
    have e : a.1 = b.1 := congrArg (fun q : Q4 => q.1) e
    omega
theorem lex4_irrefl (p : Q4) : ¬ lex4 p p := by
  unfold lex4
  omega
/-- what is found, sorted -/
theorem sort_fnd {h : List (Int × Str)} (asc : (h.map (·.1)).Pairwise (· < ·)) (z : Str) {Z : List (V × Q4)} (e : Z.map (·.2) = fnd h z) : (Z.mergeSort (PySem.W.dataLe false fun z => d4 z.2)).map (·.2) = allR h z := by
  rw [le_4 (fun z : V × Q4 => z.2)]
  have pw := List.pairwise_mergeSort (le := fun p q : V × Q4 => le4 p.2 q.2) (fun a b c => le4_tr a.2 b.2 c.2) (fun a b => le4_tot a.2 b.2) Z
  have pm := (List.mergeSort_perm Z fun p q : V × Q4 => le4 p.2 q.2).map (·.2)
  generalize Z.mergeSort (fun p q : V × Q4 => le4 p.2 q.2) = S at pw pm
  have pw2 : (S.map (·.2)).Pairwise (fun p q => le4 p q = true) := List.pairwise_map.mpr pw
  rw [e] at pm
  have p2 : (allR h z).Perm (fnd h z) := by
    refine (List.perm_ext_iff_of_nodup ?_ (fnd_nodup asc z)).mpr fun x => allR_mem
    exact (allR_pw asc z).imp fun {a b} hab (z : a = b) => lex4_irrefl a (by rw [← z] at hab; exact hab)
  refine List.Perm.eq_of_pairwise (le := fun p q => le4 p q = true) (fun a b _ _ h1 h2 => ?_) pw2 ((allR_pw asc z).imp fun {a b} hab => ?_) (pm.trans p2.symm)
  · rw [le4_iff] at h1 h2
    unfold lex4 at h1 h2
    obtain ⟨a1, a2, a3, a4⟩ := a
    obtain ⟨b1, b2, b3, b4⟩ := b
    simp only at h1 h2
    have : a1 = b1 := by omega
    have : a2 = b2 := by omega
    have : a3 = b3 := by omega
    have : a4 = b4 := by omega
    subst_vars
    rfl
  · rw [le4_iff]
    unfold lex4 at *
    omega
theorem sum_le {α : Type} {f : α → List Q4} {m : Nat} : ∀ {l : List α}, (∀ x ∈ l, (f x).length ≤ m) → (l.flatMap f).length ≤ l.length * m
  | [], _ => Nat.zero_le _
  | x :: r, h => by
    have := sum_le (f := f) (l := r) fun y hy => h y (List.mem_cons_of_mem _ hy)
    have := h x (List.mem_cons_self ..)
    rw [List.flatMap_cons, List.length_append, List.length_cons, Nat.succ_mul]
    omega
theorem rowsQ_len {z : Str} {q : Int × Str} (h : q.2.length ≤ 40) : (rowsQ z q).length ≤ 1681 := by
  have := sum_le (f := rowsI z q) (m := 41) (l := List.range (q.2.length + 1)) fun i _ => by unfold rowsI; rw [List.length_map, List.length_range]; omega
  rw [List.length_range] at this
  unfold rowsQ
  have : (q.2.length + 1) * 41 ≤ 41 * 41 := Nat.mul_le_mul_right _ (by omega)
  omega
theorem fndQ_len {z : Str} {q : Int × Str} (h : q.2.length ≤ 40) : (fndQ z q).length ≤ 1681 := by
  have := sum_le (f := fndJ z q) (m := 41) (l := List.range (q.2.length + 1)) fun i hi => by have := List.mem_range.mp hi; unfold fndJ; rw [List.length_map, List.length_range]; omega
  rw [List.length_range] at this
  unfold fndQ
  have : (q.2.length + 1) * 41 ≤ 41 * 41 := Nat.mul_le_mul_right _ (by omega)
  omega
theorem allR_len {h : List (Int × Str)} {z : Str} (h8 : h.length ≤ 8) (hz : ∀ q ∈ h, q.2.length ≤ 40) : (allR h z).length ≤ 13448 := by
  have := sum_le (f := rowsQ z) (m := 1681) (l := h) fun q hq => rowsQ_len (hz q hq)
  unfold allR
  have : h.length * 1681 ≤ 8 * 1681 := Nat.mul_le_mul_right _ h8
  omega
theorem fnd_len {h : List (Int × Str)} {z : Str} (h8 : h.length ≤ 8) (hz : ∀ q ∈ h, q.2.length ≤ 40) : (fnd h z).length ≤ 13448 := by
  have := sum_le (f := fndQ z) (m := 1681) (l := h) fun q hq => fndQ_len (hz q hq)
  unfold fnd
  have : h.length * 1681 ≤ 8 * 1681 := Nat.mul_le_mul_right _ h8
  omega
theorem flatR_snoc {α : Type} {f : α → List Q4} {l : List α} {i : Nat} {t : α} (h : l[i]? = some t) : (l.take (i + 1)).flatMap f = (l.take i).flatMap f ++ f t := by
  rw [List.take_add_one, h, List.flatMap_append]
  simp
theorem flatR_range {f : Nat → List Q4} (i : Nat) : (List.range (i + 1)).flatMap f = (List.range i).flatMap f ++ f i := by
  rw [List.range_succ, List.flatMap_append]
  simp
end SH
set_option Elab.async false
set_option linter.all false
set_option maxRecDepth 100000
set_option maxHeartbeats 4000000
/-! min(xs, key=lambda x: x[3], default=None) of a list of tuples -/
namespace SH.KeyL
open PySem PySem.Spec PyProof.Rows L2 LamX
theorem best_is (kf : Nat → Int) : ∀ k, argBest (fun i j => decide (kf i < kf j)) k ≤ k ∧ ∀ m, m ≤ k → kf (argBest (fun i j => decide (kf i < kf j)) k) ≤ kf m ∧ (m < argBest (fun i j => decide (kf i < kf j)) k → kf (argBest (fun i j => decide (kf i < kf j)) k) < kf m)
  | 0 => ⟨Nat.le_refl _, fun m hm => by
    obtain rfl : m = 0 := by omega
    exact ⟨Int.le_refl _, fun h => absurd h (Nat.not_lt_zero _)⟩⟩
  | k + 1 => by
    obtain ⟨h1, h2⟩ := best_is kf k
    have e : argBest (fun i j => decide (kf i < kf j)) (k + 1) = if decide (kf (k + 1) < kf (argBest (fun i j => decide (kf i < kf j)) k)) = true then k + 1 else argBest (fun i j => decide (kf i < kf j)) k := rfl
    rw [e]
    generalize argBest (fun i j => decide (kf i < kf j)) k = b at h1 h2
    by_cases c : kf (k + 1) < kf b
    · rw [if_pos (decide_eq_true c)]
      refine ⟨Nat.le_refl _, fun m hm => ?_⟩
      by_cases em : m = k + 1
      · subst em
        exact ⟨Int.le_refl _, fun h => absurd h (Nat.lt_irrefl _)⟩
      · have := (h2 m (by omega)).1
        exact ⟨by omega, fun _ => by omega⟩
    · rw [if_neg (by rw [decide_eq_true_eq]; exact c)]
      refine ⟨by omega, fun m hm => ?_⟩
      by_cases em : m = k + 1
      · subst em
        exact ⟨by omega, fun h => absurd h (by omega)⟩
      · exact h2 m (by omega)
abbrev prm (x : Str) (ap : Pos) : Arguments := ⟨[], [⟨x, none, ap⟩], none, [], [], none, []⟩
abbrev bod (x : Str) (p1 p2 p3 : Pos) (jk : Nat) : Expr := .Subscript (.Name x p1) (.Constant (.int 3) jk p2) p3
section
variable {prog : Program} {w : World} {A : Around} {E : Value → Shared → Prop} {s : Shared}
/-- the lambda is called with a tuple -/
theorem lam3 {f c' : Addr} {x q : Str} {pm ctv : Value} {scope : Scope} {ap p1 p2 p3 : Pos} {jk : Nat} {a : Addr} {its : List Value} {k : Int} {t : Tok} {Q : Value → Shared → Prop}
    (hdep : A.depth < recursionLimit) (ho : s.heap.get? f = some (PySem.W.kla_obj "<lambda>" q (prm x ap) (bod x p1 p2 p3 jk) scope [] pm c' ctv)) (hcd : s.heap.CodeRec (.ref c') q) (lim : s.heap.NoLimit)
    (S : scope.names = [(x, .local)]) (kd : scope.kind = .function) (co : scope.isCoroutine = false) (gn : scope.isGenerator = false) (hd : (x == ("__debug__" : Str)) = false)
    (hbind : ∀ v : Value, bindArgs (PySem.W.kla_fn "<lambda>" q (prm x ap) (bod x p1 p2 p3 jk) scope [] pm (.ref c') ctv) ⟨[v], []⟩ = pure [(x, v)])
    (ht : IsTup s.heap a its.toArray) (h3 : its[3]? = some (.int k t)) (h : ∀ h' tk t', (∀ b o, s.heap.get? b = some o → h'.get? b = some o) → s.toks ≤ tk → Q (.int k t') { s with heap := h', toks := tk }) :
    wpAny (model prog w) A (call (.ref f) [.ref a]) Q E s := by
  refine wpAny_call ?_
  refine PySem.W.kla_callFunE hdep ho rfl co gn rfl hcd ?_
  rw [hbind]
  refine wpAny_pure (wpAny_newFunctionEnv (fun y hy => ?_) (fun y hy => ?_) (fun h₁ hns hsb => ⟨lim.fresh _ hsb, ?_⟩) kd)
  · have hy : y ∈ scope.names := hy
    rw [S, List.mem_singleton] at hy
    rw [hy]
    exact fun z => nomatch z
  · rw [List.mem_singleton] at hy
    rw [hy]
    show scope.names.lookup x = some .local
    rw [S]
    simp [List.lookup]
  have kp : ∀ b o, s.heap.get? b = some o → h₁.get? b = some o := fun b o e => hsb.extBut b o (Nat.ne_of_lt (Heap.lt_size e)) (Heap.get?_push_of_some _ e)
  refine PySem.W.kla_codeExpr (Subscript_Constant (wpAny_Name (wpAny_loadName_local (m := fun y => [(x, Value.ref a)].reverse.lookup y) (v := .ref a) kd ?_ hns (by simp [List.lookup]) ?_) hd))
  · show scope.names.lookup x = some .local
    rw [S]
    simp [List.lookup]
  refine wpAny_Constant_int ?_
  refine ⟨"tuple", _, slot_tuple_getitem.lookup, IsTup.typeIs (IsTup.keeps ht kp), getItem_tuple (j := 3) (IsTup.keeps ht kp) (by decide) (by decide) ?_ (by simpa using h3) ?_⟩
  · have := (List.getElem?_eq_some_iff.mp h3).1
    rw [List.size_toArray]
    unfold seqIndex?
    simp
    omega
  · exact h _ _ _ kp (by show s.toks ≤ s.toks + 1 + 1; omega)
end
section
variable {X : Cx} {pins : List (Addr × Obj)} {σ : L2.St} {H : Hp} {s : Shared}
theorem sh_of {s s' : Shared} (h1 : s'.os = s.os) (h2 : s'.gens = s.gens) (h3 : s'.drawn = s.drawn) : s' = { s with heap := s'.heap, toks := s'.toks } := by
  cases s'
  cases s
  cases h1
  cases h2
  cases h3
  rfl
theorem min_run (I : Inv X pins σ H s) {l f c' : Addr} {as : List Addr} {kf : Nat → Int} {x q : Str} {pm ctv : Value} {scope : Scope} {ap p1 p2 p3 : Pos} {jk k : Nat} {Q : VK} (hl : SqL X.K H l (as.map V.ref)) (hk : ∀ i a, as[i]? = some a → ∃ vs, SqT X.K H a vs ∧ vs[3]? = some (.int (kf i)))
    (hr : Room k X.A) (ho : s.heap.get? f = some (PySem.W.kla_obj "<lambda>" q (prm x ap) (bod x p1 p2 p3 jk) scope [] pm c' ctv)) (hcd : s.heap.CodeRec (.ref c') q)
    (S : scope.names = [(x, .local)]) (kd : scope.kind = .function) (co : scope.isCoroutine = false) (gn : scope.isGenerator = false) (hd : (x == ("__debug__" : Str)) = false)
    (hbind : ∀ v : Value, bindArgs (PySem.W.kla_fn "<lambda>" q (prm x ap) (bod x p1 p2 p3 jk) scope [] pm (.ref c') ctv) ⟨[v], []⟩ = pure [(x, v)])
    (q0 : as = [] → Q .non H) (q1 : ∀ i a, as[i]? = some a → (∀ m, m < as.length → kf i ≤ kf m ∧ (m < i → kf i < kf m)) → Q (.ref a) H) :
    wpAny (model X.prog X.w) X.A (call (.builtin "min") [.ref l] [(Str.ofString "key", .ref f), (Str.ofString "default", .none)]) (EP X pins σ Q) X.xe s := by
  obtain ⟨its, rv, pl, hz⟩ := I.list hl
  have hll : l < s.heap.objs.size := by
    obtain ⟨o, _, e, _⟩ := pl
    exact Heap.lt_size e
  have hlen : its.length = as.length := by
    have := rv.length
    rw [List.length_map] at this
    exact this.symm
  have hsz : its.toArray.size = its.length := List.size_toArray ..
  have hne : l ≠ s.heap.objs.size := Nat.ne_of_lt hll
  have item : ∀ {i : Nat} {v : Value}, its.toArray[i]? = some v → ∃ a, as[i]? = some a ∧ v = .ref a := fun {i v} h => by
    have h : its[i]? = some v := by simpa using h
    have hi := (List.getElem?_eq_some_iff.mp h).1
    have e : as[i]? = some as[i] := List.getElem?_eq_getElem (by omega)
    refine ⟨_, e, ?_⟩
    obtain ⟨u, eu, r⟩ := rv.get (show (as.map V.ref)[i]? = some (V.ref as[i]) by rw [List.getElem?_map, e]; rfl)
    rw [h] at eu
    cases eu
    exact r
  have fin : ∀ {s' : Shared}, (∀ b o, s.heap.get? b = some o → s'.heap.get? b = some o) → s'.gens = s.gens → s'.drawn = s.drawn → s'.os = s.os → Inv X pins σ H s' := fun {s'} h1 h2 h3 h4 => by
    have := I.kept (h' := s'.heap) (t' := s'.toks) h1
    rw [← sh_of h4 h2 h3] at this
    exact this
  refine call_min_walkKD (wpAny_pyIter_list pl.isList ?_)
  have kp0 : ∀ b o, s.heap.get? b = some o → (s.heap.push { cls := .type "list_iterator", data := .fields #[.ref l, .int 0 0] }).get? b = some o := fun b o e => Heap.get?_push_of_some _ e
  have sz1 : (s.heap.push { cls := .type "list_iterator", data := .fields #[.ref l, .int 0 0] }).objs.size = s.heap.objs.size + 1 := Heap.size_push ..
  refine ⟨s.heap.objs.size, [s.heap.objs.size, l], [s.heap.objs.size], _, its.toArray.size, (fun i v => its.toArray[i]? = some v), (fun i s' => s'.heap.IsListIter s.heap.objs.size l i ∧ s'.heap.IsList l its.toArray),
    (fun s' => (∀ b o, s.heap.get? b = some o → s'.heap.get? b = some o) ∧ s'.gens = s.gens ∧ s'.drawn = s.drawn ∧ s'.os = s.os), (fun i kv _ => ∃ t, kv = .int (kf i) t), (fun i j => decide (kf i < kf j)), rfl, (Walks.list (A := X.A.in1) hr.hd s.heap.objs.size l hne its.toArray).toS,
    ⟨⟨_, Heap.get?_push_size _ rfl, rfl, rfl⟩, (PlainL.keeps pl kp0).isList⟩, fun b hb => ?_, ⟨fun s1 s2 hJ hm => ?_, fun i kv s1 s2 hv _ => hv, fun i v s1 o Qn En hi hP hJ hst hS hQ => ?_, fun i j ki kj s1 Qn En _ hi hj hQ => ?_⟩, ⟨kp0, rfl, rfl, rfl⟩, fun n0 s' hJ => ?_, fun n1 v s' hP hJ => ?_⟩
  · show b < (s.heap.push { cls := .type "list_iterator", data := .fields #[.ref l, .int 0 0] }).objs.size
    rw [sz1]
    simp only [List.mem_cons, List.not_mem_nil, or_false] at hb
    rcases hb with e | e
    · rw [e]; exact Nat.lt_succ_self _
    · rw [e]; exact Nat.lt_succ_of_lt hll
  · obtain ⟨j1, j2, j3, j4⟩ := hJ
    refine ⟨fun b o e => hm.heap b o (fun hb => ?_) (j1 b o e), (show s2.gens = s.gens from (show s2.gens = s1.gens from hm.gens).trans j2), hm.drawn.trans j3, hm.os.trans j4⟩
    have lt := Heap.lt_size e
    simp only [List.mem_cons, List.not_mem_nil, or_false] at hb
    rcases hb with e1 | e1
    · rw [e1] at lt
      have lt : (s.heap.push { cls := .type "list_iterator", data := .fields #[.ref l, .int 0 0] }).objs.size < s.heap.objs.size := lt
      rw [sz1] at lt
      omega
    · rw [e1] at lt
      exact Nat.lt_irrefl _ lt
  · obtain ⟨a, ea, rfl⟩ := item hP
    obtain ⟨vs, ht, h3⟩ := hk i a ea
    have I1 := fin hJ.1 hJ.2.1 hJ.2.2.1 hJ.2.2.2
    obtain ⟨jts, rj, tj, _⟩ := I1.tuple ht
    obtain ⟨u, eu, ru⟩ := rj.get h3
    obtain ⟨tk0, rfl⟩ := ru
    obtain ⟨cc, oc, vsc, tq, hc, hoc, hdc, hq⟩ := hcd
    refine lam3 (by have := hr.dp; show X.A.depth < recursionLimit; omega) (hJ.1 _ _ ho) ⟨cc, oc, vsc, tq, hc, hJ.1 _ _ hoc, hdc, hq⟩ I1.nolimit S kd co gn hd hbind tj eu fun h' tk t' kp htk => ?_
    refine hQ _ _ ⟨fun b o e => kp b o (hJ.1 b o e), hJ.2.1, hJ.2.2.1, hJ.2.2.2⟩ ?_ (kp _ _ hS) ⟨t', rfl⟩ fun j k' hv => hv
    exact (Walks.list (prog := X.prog) (w := X.w) (A := X.A.in1) hr.hd s.heap.objs.size l hne its.toArray).frame (i + 1) s1.heap h' hst fun b _ o e => kp b o e
  · exact CmpOf.ints_lt (prog := X.prog) (w := X.w) (A := X.A.in1) (P := fun i v => ∃ t, v = .int (kf i) t) kf (fun i v h => h) i j ki kj s1 Qn En hi hj hQ
  · rw [hsz, hlen] at n0
    exact ⟨.non, H, fin hJ.1 hJ.2.1 hJ.2.2.1 hJ.2.2.2, rfl, q0 (List.eq_nil_of_length_eq_zero n0)⟩
  · obtain ⟨a, ea, rfl⟩ := item hP
    obtain ⟨b1, b2⟩ := best_is kf (its.toArray.size - 1)
    rw [hsz, hlen] at b2 ea n1
    exact ⟨.ref a, H, fin hJ.1 hJ.2.1 hJ.2.2.1 hJ.2.2.2, rfl, q1 _ a ea fun m hm => b2 m (by omega)⟩
/-- .. the call itself: the lambda is made first -/
def tMinLam (K : PySem.W.Frag) (T : List (Addr × Str)) (te : TE) : TE := fun σ H Q => te σ H fun v H1 => ∃ (l : Addr) (as : List Addr) (kf : Nat → Int), v = .ref l ∧ SqL K H1 l (as.map V.ref) ∧ (∀ i a, as[i]? = some a → ∃ vs, SqT K H1 a vs ∧ vs[3]? = some (.int (kf i))) ∧ Tabs T H1 ∧
  ∀ H2, ExtN H1 H2 → Tabs T H2 → (as = [] → Q .non H2) ∧ ∀ i a, as[i]? = some a → (∀ m, m < as.length → kf i ≤ kf m ∧ (m < i → kf i < kf m)) → Q (.ref a) H2
theorem sqT_ext {K : PySem.W.Frag} {H H' : Hp} {a : Addr} {xs : List V} (h : SqT K H a xs) (e : ExtN H H') : SqT K H' a xs := by
  rcases h with (h | ⟨o, h⟩) | h
  · exact .inl (.inl (e _ _ h (fun ps z => by cases z)))
  · exact .inl (.inr ⟨o, e _ _ h (fun ps z => by cases z)⟩)
  · exact .inr h
theorem sqL_ext {K : PySem.W.Frag} {H H' : Hp} {a : Addr} {xs : List V} (h : SqL K H a xs) (e : ExtN H H') : SqL K H' a xs := by
  rcases h with (h | ⟨o, h⟩) | h
  · exact .inl (.inl (e _ _ h (fun ps z => by cases z)))
  · exact .inl (.inr ⟨o, e _ _ h (fun ps z => by cases z)⟩)
  · exact .inr h
theorem pe_minLam {T : List (Addr × Str)} {c P : Addr} {k : Nat} {e : Expr} {te : TE} {x : Str} {scope : Scope} {ap p1 p2 p3 p lpos kp1 kp2 cp pos : Pos} {jk jc : Nat}
    (hr : Room k X.A) (hg : Gl X "min") (hm : X.mg "min" = none) (hb : bootBuiltins "min" = some (.builtin "min")) (ha : PE X e te) (TB : TabB X.base X.mg c P) (hcode : X.env.code = .ref c) (hmT : (P, X.env.qual ++ "<lambda>") ∈ T) (hu : ∀ p ∈ T, p.1 = P → p.2 = X.env.qual ++ "<lambda>")
    (hdef : defaultsOf (prm x ap) X.env = ([], [])) (S : scope.names = [(x, .local)]) (kd : scope.kind = .function) (co : scope.isCoroutine = false) (gn : scope.isGenerator = false) (hd : (x == ("__debug__" : Str)) = false)
    (hbind : ∀ (q : Str) (pm cv ctv v : Value), bindArgs (PySem.W.kla_fn "<lambda>" q (prm x ap) (bod x p1 p2 p3 jk) scope [] pm cv ctv) ⟨[v], []⟩ = pure [(x, v)])
    (he : backTo pos (starEach [e] X.env) = (false, eval e X.env) :: backTo pos (starEach [] X.env) := by rfl) (hpl : (backTo pos (starEach [e] X.env)).any (·.1) = false := by rfl) :
    PE X (.Call (.Name "min" p) [e] [⟨some "key", .Lambda (prm x ap) (bod x p1 p2 p3 jk) scope lpos, kp1⟩, ⟨some "default", .Constant .none jc cp, kp2⟩] pos) (tMinLam X.K T te) := by
  refine ⟨fun pins s σ H Q I h => ?_⟩
  refine wpAny_Call_Name_kw (ld_blt I hg hm hb ?_)
  refine PyProof.Rows.callWith_kw ?_ he hpl
  rw [he]
  show wpAny _ _ (spliced ((false, eval e X.env) :: backTo pos (starEach [] X.env))) _ _ s
  refine Calls.spliced_cons (thn (ha.run pins s σ H _ I h) fun u s1 ⟨v, H1, I1, r1, q1⟩ => ?_)
  obtain ⟨l, as, kf, rfl, hl, hk, hT, q⟩ := q1
  obtain rfl : u = Value.ref l := r1
  refine Calls.spliced_nil ?_
  refine PyProof.Rows.kws_cons (lam_make2 I1 TB hcode hmT hu hT hdef (fun y hy z => ?_) fun f c' pm ctv H2 s2 I2 eN T2 hf hfn hfr hco => ?_)
  · rw [S, List.mem_singleton] at hy
    rw [hy] at z
    cases z
  refine PyProof.Rows.kws_cons (Constant_none ?_)
  refine PyProof.Rows.kws_nil ?_
  obtain ⟨q0, q1⟩ := q H2 eN T2
  have ecl : cloFrom X.env.cells scope.names [] = [] := by
    rw [S]
    rfl
  rw [ecl] at hf
  obtain ⟨⟨oc, vs, t, g1, g2, g3⟩, _, _⟩ := I2.hok c' _ hco
  exact min_run I2 (sqL_ext hl eN) (fun i a h => by
    obtain ⟨vs, a1, a2⟩ := hk i a h
    exact ⟨vs, sqT_ext a1 eN, a2⟩) hr hf ⟨c', oc, vs, t, rfl, g1, g2, g3⟩ S kd co gn hd (fun v => hbind _ _ _ _ v) q0 q1
end
end SH.KeyL
set_option Elab.async false
set_option linter.all false
set_option maxRecDepth 100000
set_option maxHeartbeats 4000000
namespace SH
open PySem PySem.Spec PyProof.Rows L2
def topS (i : Nat) : Stmt := PySem.Challenge.pw_suffixhouse_k35_near_places.main.body.getD i (.Pass ⟨0, 0, 0, 0⟩)
abbrev s_distance_table : Stmt := topS 4
abbrev s__row_above : Stmt := topS 5
abbrev s_near_places : Stmt := topS 8
abbrev s_nearest : Stmt := topS 9
abbrev s__places_with_distance : Stmt := topS 10
abbrev s__law_draws : Stmt := topS 12
abbrev s__law_at : Stmt := topS 13
abbrev s__law_word : Stmt := topS 15
abbrev s__law_near : Stmt := topS 16
abbrev s__law_table : Stmt := topS 17
abbrev s__law_house : Stmt := topS 18
abbrev s__law_all : Stmt := topS 19
abbrev s__law_from : Stmt := topS 20
abbrev s__law_great : Stmt := topS 21
abbrev s__law_refused : Stmt := topS 22
abbrev s_law : Stmt := topS 23
structure Ea where
  fI : Addr
  c_HouseError : Addr
  c_OutOfRange : Addr
abbrev s_init : Stmt := inClass (topS 1) 0
structure Txt (K : PySem.W.Frag) (mg : Str → Option Value) (ea : Ea) : Prop where
  b_abs : mg "abs" = none
  b_bool : mg "bool" = none
  b_enumerate : mg "enumerate" = none
  b_int : mg "int" = none
  b_isinstance : mg "isinstance" = none
  b_len : mg "len" = none
  b_list : mg "list" = none
  b_min : mg "min" = none
  b_range : mg "range" = none
  b_sorted : mg "sorted" = none
  m__MOST_CHANGES : ∃ t, mg "_MOST_CHANGES" = some (.int 3 t)
  d_distance_table : Dd K mg "distance_table" s_distance_table ["one", "two"]
  d__row_above : Dd K mg "_row_above" s__row_above ["below", "letter", "two"]
  d_near_places : Dd K mg "near_places" s_near_places ["house", "word", "most"]
  d_nearest : Dd K mg "nearest" s_nearest ["house", "word"]
  d__places_with_distance : Dd K mg "_places_with_distance" s__places_with_distance ["house", "word"]
  d__law_draws : Dd K mg "_law_draws" s__law_draws ["script"]
  d__law_at : Dd K mg "_law_at" s__law_at ["draws", "k", "many"]
  d__law_word : Dd K mg "_law_word" s__law_word ["draws", "first", "most"]
  d__law_near : Dd K mg "_law_near" s__law_near ["draws", "first", "word"]
  d__law_table : Dd K mg "_law_table" s__law_table ["one", "two"]
  d__law_house : Dd K mg "_law_house" s__law_house ["draws", "first"]
  d__law_all : Dd K mg "_law_all" s__law_all ["house", "word"]
  d__law_from : Dd K mg "_law_from" s__law_from ["word", "text", "start"]
  d__law_great : Dd K mg "_law_great" s__law_great ["draws"]
  d__law_refused : Dd K mg "_law_refused" s__law_refused ["house", "word", "most"]
  d_law : Dd K mg "law" s_law ["script"]
  init : DdI K "HouseError.__init__" s_init ea.fI
  x_HouseError : ErrC K mg "HouseError" ea.c_HouseError ea.fI
  x_OutOfRange : ErrC K mg "OutOfRange" ea.c_OutOfRange ea.fI
  e_OutOfRange_OutOfRange : PySem.W.exmOne K (.ref ea.c_OutOfRange) (.ref ea.c_OutOfRange) = some true
section
variable {P : Program} {w : World} {K : PySem.W.Frag} {mg : Str → Option Value} {base : Heap} {ea : Ea}
/-- the numbers drawn from the script: a new list of small numbers -/
def spDraws (K : PySem.W.Frag) : Sp := fun vs H Q _ => ∃ (a : Addr) (ns : List Int), vs = [.ref a] ∧ SqL K H a (ns.map V.int) ∧ ns.length ≤ 63 ∧
  ∀ (p : Addr) (ds : List Int) (H' : Hp), Same H H' → H p = none → H' p = some (.lst (ds.map V.int)) → Dr ds → Q (.ref p) H'
/-- the list at p so far -/
structure DrAt (H H' : Hp) (p : Addr) (n : Nat) (ds : List Int) : Prop where
  sm : Same H H'
  at_ : H' p = some (.lst (ds.map V.int))
  len : ds.length ≤ n
  all : ∀ z ∈ ds, 0 ≤ z ∧ z < 65536
theorem DrAt.more {H H' : Hp} {p : Addr} {n : Nat} {ds : List Int} (h : DrAt H H' p n ds) (hp : H p = none) {z : Int} (z0 : 0 ≤ z) (z1 : z < 65536) : DrAt H (upd H' p (.lst (ds.map V.int ++ [.int z]))) p (n + 1) (ds ++ [z]) :=
  ⟨same_mut h.sm hp, by rw [upd_same, List.map_append]; rfl, by rw [List.length_append]; have := h.len; simp; omega, fun y hy => by
    rcases List.mem_append.mp hy with m | m
    · exact h.all y m
    · rw [List.mem_singleton.mp m]; exact ⟨z0, z1⟩⟩
theorem DrAt.mono {H H' : Hp} {p : Addr} {n m : Nat} {ds : List Int} (h : DrAt H H' p n ds) (l : n ≤ m) : DrAt H H' p m ds := ⟨h.sm, h.at_, Nat.le_trans h.len l, h.all⟩
theorem sc__law_draws : FnScope ["script", "draws", "k", "rest", "turn", "mixed"] ["script"] (defScope s__law_draws) := ⟨rfl, rfl, rfl, by decide +kernel, rfl, by decide +kernel, by decide +kernel⟩
theorem ok__law_draws (T : Txt K mg ea) : Cl P w K mg base 1 "_law_draws" (spDraws K) := by
  have nd := sc__law_draws.nd
  refine cl_of T.d__law_draws sc__law_draws (fun vs H Q E h => ?_) (fun f cdv A outer s H vs Q E hr h => ?_)
  · obtain ⟨a, ns, rfl, _⟩ := h
    rfl
  · obtain ⟨a, ns, rfl, hS, hl, q⟩ := h
    refine ⟨_, (pss_cons (ps_set (i := 1) nd rfl (.inl rfl) (pe_lst pa_nil))
      (pss_cons (ps_for PassesOwn.never rfl (pi_range1 rfl T.b_range (pa_cons (pe_callB (call_min2 rfl) (by rfl) T.b_min (by decide +kernel) (pa_cons pe_int (pa_cons (pe_callB call_len_seq (by rfl) T.b_len PySem.boot_len (pa_cons (pv 0) pa_nil)) pa_nil))) pa_nil)) (pg_name (i := 2) nd rfl (.inl rfl))
        (pss_cons (ps_set (i := 3) nd rfl (.inl rfl) (pe_callB call_abs (by rfl) T.b_abs (by decide +kernel) (pa_cons (pe_ix (ixl (K := K)) (pv 0) (pv 2) (fun _ _ => rfl)) pa_nil)))
          (pss_one (ps_if (pt_cmpR op_ge (pv 3) (pe_op op_pow pe_int pe_int) (nomark _))
            (pss_one (ps_for PassesOwn.never rfl (pi_range1 rfl T.b_range (pa_cons pe_int pa_nil)) (pg_name (i := 4) nd rfl (.inl rfl))
                (pss_one (ps_if (pt_cmpR op_gt (pv 3) pe_int (nomark _))
                    (pss_cons (ps_expr (pe_bm PySem.F.plainAttrs_list PySem.F.slot_list_append PySem.F.type_list_append mt_append (pv 1) (pa_cons (pe_op op_mod (pe_callTy call_int1 (by rfl) T.b_int (by decide +kernel) (pa_cons (pv 3) pa_nil)) pe_int) pa_nil)))
                      (pss_one (ps_set (i := 3) nd rfl (.inl rfl) (pe_op op_fdiv (pv 3) pe_int))))
                    pss_nil))))
            (pss_cons (ps_set (i := 5) nd rfl (.inl rfl) (pe_op op_mod (pe_callTy call_int1 (by rfl) T.b_int (by decide +kernel) (pa_cons (pe_op op_add (pe_op op_mul (pv 3) pe_int) (pe_op op_mul (pe_op op_add (pv 2) pe_int) pe_int)) pa_nil)) pe_int))
              (pss_cons (ps_set (i := 5) nd rfl (.inl rfl) (pe_op op_mod (pe_callTy call_int1 (by rfl) T.b_int (by decide +kernel) (pa_cons (pe_op op_add (pe_op op_add (pe_op op_mul (pv 5) pe_int) (pe_op op_mul pe_int (pv 2))) pe_int) pa_nil)) pe_int))
              (pss_cons (ps_expr (pe_bm PySem.F.plainAttrs_list PySem.F.slot_list_append PySem.F.type_list_append mt_append (pv 1) (pa_cons (pe_op op_mod (pe_callTy call_int1 (by rfl) T.b_int (by decide +kernel) (pa_cons (pv 5) pa_nil)) pe_int) pa_nil)))
              (pss_one (ps_expr (pe_bm PySem.F.plainAttrs_list PySem.F.slot_list_append PySem.F.type_list_append mt_append (pv 1) (pa_cons (pe_op op_mod (pe_callTy call_int1 (by rfl) T.b_int (by decide +kernel) (pa_cons (pe_op op_fdiv (pv 5) pe_int) pa_nil)) pe_int) pa_nil)))))))))))
      (pss_one (ps_ret (pv 1))))), ?_⟩
    refine ⟨Nat.zero_le _, fun p hp => ?_⟩
    have sm0 : Same H (upd H p (.lst [])) := same_new hp
    have hlen : (ns.map V.int).length = ns.length := List.length_map ..
    refine ⟨_, rfl, _, _, rfl, .inl (sm0.seq hS), _, _, rfl, ?_⟩
    have hm : (if ((ns.map V.int).length : Int) < 63 then ((ns.map V.int).length : Int) else 63) ≤ ns.length ∧ 0 ≤ (if ((ns.map V.int).length : Int) < 63 then ((ns.map V.int).length : Int) else 63) ∧ (if ((ns.map V.int).length : Int) < 63 then ((ns.map V.int).length : Int) else 63) ≤ 63 := by
      rw [hlen]; split <;> omega
    refine ⟨_, rfl, by omega, by omega, ?_⟩
    generalize (if ((ns.map V.int).length : Int) < 63 then ((ns.map V.int).length : Int) else 63) = m at hm ⊢
    obtain ⟨m1, m0, m2⟩ := hm
    refine for_range (lo := 0) (n := m.toNat) (fun i σ H' => ∃ (ds : List Int) (y2 y3 y4 y5 : Option V), σ = [some (.ref a), some (.ref p), y2, y3, y4, y5] ∧ DrAt H H' p (60 * i) ds)
      ⟨[], none, none, none, none, rfl, sm0, upd_same, Nat.zero_le _, fun z hz => by cases hz⟩ (fun i σ H' hi hW => ?_) (fun σ H' hW => ?_)
    · obtain ⟨ds, y2, y3, y4, y5, rfl, hA⟩ := hW
      obtain ⟨z, hz, _⟩ := at_ints (ns := ns) (i := 0 + (i : Int)) (by omega) (by omega)
      refine ⟨_, rfl, _, rfl, _, _, _, _, rfl, rfl, hA.sm.seq hS, hz, _, rfl, ?_⟩
      generalize (if z < 0 then -z else z) = r
      refine ⟨_, rfl, _, _, rfl, rfl, ⟨by decide, by decide, by decide⟩, _, _, rfl, rfl, _, rfl, ite2 (fun e => ?_) (fun e => ?_)⟩
      · -- a great number: its digits
        refine ⟨60, rfl, by decide, by decide, ?_⟩
        refine for_range (lo := 0) (n := 60) (fun j σ H' => ∃ (ds : List Int) (r' : Int) (y4 : Option V), σ = [some (.ref a), some (.ref p), some (.int (0 + (i : Int))), some (.int r'), y4, y5] ∧ DrAt H H' p (60 * i + j) ds)
          ⟨ds, r, y4, rfl, hA⟩ (fun j σ H2 hj hW => ?_) (fun σ H2 hW => ?_)
        · obtain ⟨ds2, r2, y42, rfl, hA2⟩ := hW
          refine ⟨_, rfl, _, _, rfl, rfl, _, rfl, ite2 (fun e => ?_) (fun e => ?_)⟩
          · refine ⟨_, rfl, .inl ⟨rfl, _, SqL.of hA2.at_⟩, _, rfl, .inl ⟨_, rfl, _, _, rfl, rfl, (by show (0 : Int) < 65536; decide), ?_⟩⟩
            refine ⟨p, _, _, rfl, rfl, hA2.at_, ?_, ?_⟩
            · rw [List.length_map]; exact Nat.lt_of_le_of_lt (Nat.le_trans hA2.len (by omega : _ ≤ 4000)) (by decide)
            · refine ⟨_, rfl, _, _, rfl, rfl, (by constructor <;> decide), ?_⟩
              exact ⟨_, _, _, rfl, hA2.more hp (Int.emod_nonneg _ (by decide)) (Int.emod_lt_of_pos _ (by decide))⟩
          · exact ⟨ds2, r2, _, rfl, hA2.mono (by omega)⟩
        · obtain ⟨ds2, r2, y42, rfl, hA2⟩ := hW
          exact ⟨ds2, _, _, _, _, rfl, hA2.mono (by omega)⟩
      · -- a lesser one: two numbers mixed
        refine ⟨_, rfl, _, _, rfl, rfl, .inr (by decide), _, rfl, _, _, rfl, rfl, _, _, rfl, rfl, .inr (by decide), _, _, rfl, rfl, .inl ⟨_, rfl, _, _, rfl, rfl, (by show (0 : Int) < 2147483647; decide), ?_⟩⟩
        refine ⟨_, rfl, _, _, rfl, rfl, .inr (by decide), _, rfl, _, _, rfl, rfl, .inl (by decide), _, _, rfl, rfl, _, _, rfl, rfl, .inl ⟨_, rfl, _, _, rfl, rfl, (by show (0 : Int) < 2147483629; decide), ?_⟩⟩
        have b1 : (ds.map V.int).length < sizeLine := by rw [List.length_map]; exact Nat.lt_of_le_of_lt (Nat.le_trans hA.len (by omega : _ ≤ 4000)) (by decide)
        refine ⟨_, rfl, .inl ⟨rfl, _, SqL.of hA.at_⟩, _, rfl, .inl ⟨_, rfl, _, _, rfl, rfl, (by show (0 : Int) < 65536; decide), p, _, _, rfl, rfl, hA.at_, b1, ?_⟩⟩
        have hB := hA.more hp (z := (((r * 48271 + (0 + (i : Int) + 1) * 69621) % 2147483647 * 16807 + 11 * (0 + (i : Int)) + 5) % 2147483629) % 65536) (Int.emod_nonneg _ (by decide)) (Int.emod_lt_of_pos _ (by decide))
        have b2 : ((ds ++ [(((r * 48271 + (0 + (i : Int) + 1) * 69621) % 2147483647 * 16807 + 11 * (0 + (i : Int)) + 5) % 2147483629) % 65536]).map V.int).length < sizeLine := by rw [List.length_map]; exact Nat.lt_of_le_of_lt (Nat.le_trans hB.len (by omega : _ ≤ 4000)) (by decide)
        refine ⟨_, rfl, .inl ⟨rfl, _, SqL.of hB.at_⟩, _, rfl, _, _, rfl, rfl, (by constructor <;> decide), .inl ⟨_, rfl, _, _, rfl, rfl, (by show (0 : Int) < 32768; decide), p, _, _, rfl, rfl, hB.at_, b2, ?_⟩⟩
        exact ⟨_, _, _, _, _, rfl, (hB.more hp (z := (((r * 48271 + (0 + (i : Int) + 1) * 69621) % 2147483647 * 16807 + 11 * (0 + (i : Int)) + 5) % 2147483629) / 65536 % 32768) (Int.emod_nonneg _ (by decide)) (by have := Int.emod_lt_of_pos ((((r * 48271 + (0 + (i : Int) + 1) * 69621) % 2147483647 * 16807 + 11 * (0 + (i : Int)) + 5) % 2147483629) / 65536) (show (0 : Int) < 32768 by decide); omega)).mono (by omega)⟩
    · obtain ⟨ds, y2, y3, y4, y5, rfl, hA⟩ := hW
      exact ⟨_, rfl, q p ds H' hA.sm hp hA.at_ ⟨Nat.le_trans hA.len (by omega), hA.all⟩⟩
end

section
variable {P : Program} {w : World} {K : PySem.W.Frag} {mg : Str → Option Value} {base : Heap} {ea : Ea}
theorem sc__law_at : FnScope ["draws", "k", "many"] ["draws", "k", "many"] (defScope s__law_at) := ⟨rfl, rfl, rfl, by decide +kernel, rfl, by decide +kernel, by decide +kernel⟩
theorem ok__law_at (T : Txt K mg ea) : Cl P w K mg base 1 "_law_at" (spDraw K) := by
  have nd := sc__law_at.nd
  refine cl_of T.d__law_at sc__law_at (fun vs H Q E h => ?_) (fun f cdv A outer s H vs Q E hr h => ?_)
  · obtain ⟨a, ns, k, many, rfl, _⟩ := h
    rfl
  · obtain ⟨a, ns, k, many, rfl, hS, hD, h0, h1, hm, q⟩ := h
    refine ⟨_, (pss_cons (ps_if (pt_cmpR op_lt (pv 1) (pe_callB call_len_seq (by rfl) T.b_len PySem.boot_len (pa_cons (pv 0) pa_nil)) (nomark _))
        (pss_one (ps_ret (pe_op op_mod (pe_callTy call_int1 (by rfl) T.b_int (by decide +kernel) (pa_cons (pe_ix (ixl (K := K)) (pv 0) (pv 1) (fun _ _ => rfl)) pa_nil)) (pv 2))))
        pss_nil)
      (pss_one (ps_ret pe_int))), ?_⟩
    refine ⟨_, rfl, _, rfl, _, _, rfl, .inl hS, _, _, rfl, rfl, _, rfl, ite2 (fun e => ?_) (fun e => ?_)⟩
    · have e' := of_decide_eq_true e
      rw [List.length_map] at e'
      obtain ⟨z, hz, hm2⟩ := at_ints h0 e'
      refine ⟨_, rfl, _, rfl, _, _, _, _, rfl, rfl, hS, hz, .inl ⟨_, rfl, _, rfl, _, _, rfl, rfl, hm, ?_⟩⟩
      exact q _ (Int.emod_nonneg _ (by omega)) (Int.emod_lt_of_pos _ hm)
    · exact q 0 (by omega) hm
end

section
variable {P : Program} {w : World} {K : PySem.W.Frag} {mg : Str → Option Value} {base : Heap} {ea : Ea}
theorem sc_init : FnScope ["self", "at"] ["self", "at"] (defScope s_init) := ⟨rfl, rfl, rfl, by decide +kernel, rfl, by decide +kernel, by decide +kernel⟩
theorem ok_init (T : Txt K mg ea) : InitOk P w K mg base ea.fI := by
  obtain ⟨fd, F, b, t⟩ := T.init.ex
  refine ⟨fd, F.ok sc_init (fun vs H Q E h => ?_) (fun cdv A outer s H vs Q E hr h => ?_), b, t⟩
  · obtain ⟨a, C, n, rfl, _⟩ := h
    rfl
  · obtain ⟨a, C, n, rfl, To, Tn, hs, ha, q⟩ := h
    refine ⟨_, pss_cons (ps_ost (pv 0) (pv 1)) (pss_one (ps_if (pt_cmpR op_gt (pe_bits (pv 1)) pe_int (nomark _)) pss_never pss_nil)), ?_⟩
    refine ⟨_, rfl, _, rfl, a, C, rfl, To, Tn, .inl ⟨ha, fun dx n1 n2 => ?_⟩⟩
    refine ⟨_, rfl, n, rfl, _, _, rfl, rfl, _, rfl, ?_⟩
    rw [small_bits hs]
    exact iteF (q dx n1 n2)
end

end SH
set_option Elab.async false
set_option linter.all false
set_option maxRecDepth 100000
set_option maxHeartbeats 4000000
namespace SH
open PySem PySem.Spec PyProof.Rows L2
section
variable {P : Program} {w : World} {K : PySem.W.Frag} {mg : Str → Option Value} {base : Heap} {ea : Ea}
/-- the row above: a new list -/
def spRow (K : PySem.W.Frag) : Sp := fun vs H Q _ => ∃ (p : Addr) (c : Nat) (b : Str) (x : List Nat), vs = [.ref p, .str ⟨#[c]⟩, .str b] ∧ SqL K H p ((rowE x (TL.tl b)).map V.int) ∧ b.length ≤ 200 ∧ ∀ (l : Addr) (H' : Hp), Same H H' → H l = none → H' l = some (.lst ((rowE (c :: x) (TL.tl b)).map V.int)) → Q (.ref l) H'
theorem at_row {x y : List Nat} {j : Nat} (h : j ≤ y.length) : atI ((rowE x y).map V.int) (j : Int) = some (.int ((ed x (y.drop j) : Nat) : Int)) := by
  refine atI_nat ?_
  rw [List.getElem?_map, rowE_at h]
  rfl
theorem atI_neg1 {xs : List V} {v : V} (h : xs ≠ []) (hv : xs.getLast? = some v) : atI xs (-1) = some v := by
  obtain ⟨ys, y, rfl⟩ : ∃ ys y, xs = ys ++ [y] := ⟨_, _, (List.dropLast_concat_getLast h).symm⟩
  rw [List.getLast?_append] at hv
  have hv : some y = some v := hv
  rw [← Option.some.inj hv]
  exact atI_last _ _
theorem sc__row_above : FnScope ["below", "letter", "two", "row", "j"] ["below", "letter", "two"] (defScope s__row_above) := ⟨rfl, rfl, rfl, by decide +kernel, rfl, by decide +kernel, by decide +kernel⟩
theorem ok__row_above (T : Txt K mg ea) : Cl P w K mg base 1 "_row_above" (spRow K) := by
  have nd := sc__row_above.nd
  refine cl_of T.d__row_above sc__row_above (fun vs H Q E h => ?_) (fun f cdv A outer s H vs Q E0 hr h => ?_)
  · obtain ⟨p, c, b, x, rfl, _⟩ := h
    rfl
  · obtain ⟨p, c, b, x, rfl, hP, bl, q⟩ := h
    refine ⟨_, (pss_cons (ps_set (i := 3) nd rfl (.inl rfl) (pe_op op_cat (pe_op op_rep (pe_lst (pa_cons pe_int pa_nil)) (pe_callB call_len_str (by rfl) T.b_len PySem.boot_len (pa_cons (pv 2) pa_nil))) (pe_lst (pa_cons (pe_op op_add (pe_ix (ixl (K := K)) (pv 0) (pe_un un_neg pe_int) (fun _ _ => rfl)) pe_int) pa_nil))))
      (pss_cons (ps_for PassesOwn.never rfl (pi_range3 rfl T.b_range (pa_cons (pe_op op_sub (pe_callB call_len_str (by rfl) T.b_len PySem.boot_len (pa_cons (pv 2) pa_nil)) pe_int) (pa_cons (pe_un un_neg pe_int) (pa_cons (pe_un un_neg pe_int) pa_nil)))) (pg_name (i := 4) nd rfl (.inl rfl))
        (pss_one (ps_if (pt_cmpR op_eq (pv 1) (pe_ix ix_str (pv 2) (pv 4) (fun _ _ => rfl)) (nomark _))
            (pss_one (ps_asg (pe_ix (ixl (K := K)) (pv 0) (pe_op op_add (pv 4) pe_int) (fun _ _ => rfl)) (pg_sub (pv 3) (pv 4) set_list)))
            (pss_one (ps_asg (pe_op op_add pe_int (pe_callB (call_min3Nu rfl) (by rfl) T.b_min (by decide +kernel) (pa_cons (pe_ix (ixl (K := K)) (pv 0) (pv 4) (fun _ _ => rfl)) (pa_cons (pe_ix (ixl (K := K)) (pv 3) (pe_op op_add (pv 4) pe_int) (fun _ _ => rfl)) (pa_cons (pe_ix (ixl (K := K)) (pv 0) (pe_op op_add (pv 4) pe_int) (fun _ _ => rfl)) pa_nil))))) (pg_sub (pv 3) (pv 4) set_list))))))
      (pss_one (ps_ret (pv 3))))), ?_⟩
    have zl : (TL.tl b).length = b.length := rfl
    have bs : b.length ≤ sizeLine := Nat.le_trans bl (by decide)
    have en : (TL.tl b).drop b.length = [] := List.drop_eq_nil_of_le (by rw [zl]; exact Nat.le_refl _)
    refine ⟨(by show 1 ≤ sizeLine; decide), fun l1 n1 => ?_⟩
    have s1 := same_new (o := .lst [.int 0]) n1
    refine ⟨_, rfl, b, rfl, bs, ?_⟩
    refine ⟨l1, _, _, rfl, rfl, upd_same, by omega, by omega, (by show 1 * ((b.length : Nat) : Int).toNat ≤ sizeLine; rw [Int.toNat_natCast, Nat.one_mul]; exact bs), fun p2 n2 => ?_⟩
    have s2 := s1.trans (same_new (o := .lst (List.replicate ((b.length : Nat) : Int).toNat [V.int 0]).flatten) n2)
    have at2 : (upd (upd H l1 (.lst [.int 0])) p2 (.lst (List.replicate ((b.length : Nat) : Int).toNat [V.int 0]).flatten)) p2 = some (.lst ((List.replicate b.length (0 : Int)).map V.int)) := by
      rw [upd_same, Int.toNat_natCast, List.flatten_replicate_singleton, List.map_replicate]
    generalize upd (upd H l1 (.lst [.int 0])) p2 (.lst (List.replicate ((b.length : Nat) : Int).toNat [V.int 0]).flatten) = H2 at s2 at2 ⊢
    have last : atI ((rowE x (TL.tl b)).map V.int) (-1) = some (.int ((ed x [] : Nat) : Int)) := by
      refine atI_neg1 ?_ ?_
      · intro z
        have := congrArg List.length z
        rw [List.length_map, rowE_len] at this
        simp at this
      · rw [List.getLast?_eq_getElem?, List.length_map, rowE_len, Nat.add_sub_cancel, List.getElem?_map, rowE_at (Nat.le_refl _), zl, en]
        rfl
    refine ⟨_, rfl, _, rfl, p, _, _, _, rfl, rfl, s2.seq hP, last, _, _, rfl, rfl, ?_⟩
    refine ⟨(by show 1 ≤ sizeLine; decide), fun l3 n3 => ?_⟩
    have s3 := same_new (o := .lst [.int (((ed x [] : Nat) : Int) + 1)]) n3
    refine ⟨p2, l3, _, _, rfl, rfl, s3 _ _ at2, upd_same, ?_, fun l nl => ?_⟩
    · rw [List.length_map, List.length_replicate]
      exact Nat.le_trans (by show b.length + 1 ≤ 1000; omega) (by decide : 1000 ≤ sizeLine)
    have s4 := same_new (o := .lst ((List.replicate b.length (0 : Int)).map V.int ++ [.int (((ed x [] : Nat) : Int) + 1)])) nl
    have sm := (s2.trans s3).trans s4
    have nl0 : H l = none := (s2.trans s3).free nl
    have at4 : (upd (upd H2 l3 (.lst [.int (((ed x [] : Nat) : Int) + 1)])) l (.lst ((List.replicate b.length (0 : Int)).map V.int ++ [.int (((ed x [] : Nat) : Int) + 1)]))) l = some (.lst ((List.replicate b.length (0 : Int) ++ [((ed x [] : Nat) : Int) + 1]).map V.int)) := by
      rw [upd_same, List.map_append]
      rfl
    generalize upd (upd H2 l3 (.lst [.int (((ed x [] : Nat) : Int) + 1)])) l (.lst ((List.replicate b.length (0 : Int)).map V.int ++ [.int (((ed x [] : Nat) : Int) + 1)])) = H4 at sm at4 ⊢
    refine ⟨_, rfl, b, rfl, bs, _, _, rfl, rfl, _, rfl, _, rfl, _, _, _, _, rfl, RgC.neg (by omega) (by omega) (by omega) (by omega), ?_⟩
    refine for_rangeC (lo := (b.length : Int) - 1) (c := -1) (n := ((b.length : Int) - 1 - (-1)).toNat) (fun i σ H' => ∃ (R : List Int) (y4 : Option V), σ = [some (.ref p), some (.str ⟨#[c]⟩), some (.str b), some (.ref l), y4] ∧ Same H H' ∧ H' l = some (.lst (R.map V.int)) ∧ R.length = b.length + 1 ∧ ∀ j, b.length ≤ i + j → j ≤ b.length → R[j]? = some ((ed (c :: x) ((TL.tl b).drop j) : Nat) : Int))
      ⟨_, none, rfl, sm, at4, by rw [List.length_append, List.length_replicate]; rfl, fun j h1 h2 => ?_⟩ (fun i σ H' hi hW => ?_) (fun σ H' hW => ?_)
    · have : j = b.length := by omega
      subst this
      rw [List.getElem?_append_right (by rw [List.length_replicate]; exact Nat.le_refl _), List.length_replicate, Nat.sub_self, en, ed_nil2, ed_nil2]
      rfl
    · obtain ⟨R, y4, rfl, sm, atl, Rl, hR⟩ := hW
      obtain ⟨j, ej, jl⟩ : ∃ j : Nat, (b.length : Int) - 1 + (i : Int) * (-1) = (j : Int) ∧ j + i + 1 = b.length := ⟨b.length - 1 - i, by omega, by omega⟩
      rw [ej]
      have g : (TL.tl b)[j]? = some (TL.tl b)[j] := List.getElem?_eq_getElem (by rw [zl]; omega)
      have dj : (TL.tl b).drop j = (TL.tl b)[j] :: (TL.tl b).drop (j + 1) := drop_cons (by rw [zl]; omega)
      have mem : ∀ {v : Int} {k : Nat}, R[k]? = some v → atI (R.map V.int) (k : Int) = some (.int v) := fun h => atI_nat (by rw [List.getElem?_map, h]; rfl)
      have stp : ∀ {v : Int}, v = ((ed (c :: x) ((TL.tl b).drop j) : Nat) : Int) → ∀ k, b.length ≤ i + 1 + k → k ≤ b.length → (R.set j v)[k]? = some ((ed (c :: x) ((TL.tl b).drop k) : Nat) : Int) := fun {v} ev k h1 h2 => by
        by_cases c : k = j
        · subst c
          rw [List.getElem?_set_self (by omega), ev]
        · rw [List.getElem?_set_ne (fun z => c z.symm)]
          exact hR k (by omega) h2
      have ixj : ixN (R.map V.int).length (j : Int) = some j := by
        rw [List.length_map]
        exact ixN_nat (by omega)
      refine ⟨_, rfl, _, rfl, _, rfl, b, _, _, rfl, rfl, bs, atI_nat g, rfl, _, rfl, ite2 (fun e => ?_) (fun e => ?_)⟩
      · have ec : c = (TL.tl b)[j] := by
          have h := V.str.inj (of_decide_eq_true e)
          have h := Str.mk.inj h
          simpa using h
        have e1 : (j : Int) + 1 = ((j + 1 : Nat) : Int) := by omega
        refine ⟨_, rfl, _, rfl, _, _, rfl, rfl, p, _, _, _, rfl, rfl, sm.seq hP, by rw [e1]; exact at_row (by rw [zl]; omega), _, rfl, _, rfl, l, _, _, j, rfl, rfl, atl, ixj, ?_⟩
        refine ⟨R.set j ((ed x ((TL.tl b).drop (j + 1)) : Nat) : Int), _, rfl, same_mut sm nl0, ?_, by rw [List.length_set, Rl], stp ?_⟩
        · rw [upd_same, List.map_set]
        · rw [dj, ec, ed_same]
      · have ec : c ≠ (TL.tl b)[j] := fun z => e (decide_eq_true (by rw [z]))
        have e1 : (j : Int) + 1 = ((j + 1 : Nat) : Int) := by omega
        refine ⟨_, rfl, _, rfl, p, _, _, _, rfl, rfl, sm.seq hP, at_row (by rw [zl]; omega), ?_⟩
        refine ⟨_, rfl, _, rfl, _, _, rfl, rfl, l, _, _, _, rfl, rfl, SqL.of atl, by rw [e1]; exact mem (hR (j + 1) (by omega) (by omega)), ?_⟩
        refine ⟨_, rfl, _, rfl, _, _, rfl, rfl, p, _, _, _, rfl, rfl, sm.seq hP, by rw [e1]; exact at_row (by rw [zl]; omega), ?_⟩
        refine ⟨_, _, _, _, rfl, nuMin3_int _ _ _, _, _, rfl, rfl, ?_⟩
        refine ⟨_, rfl, _, rfl, l, _, _, j, rfl, rfl, atl, ixj, ?_⟩
        refine ⟨R.set j _, _, rfl, same_mut sm nl0, by rw [upd_same, List.map_set], by rw [List.length_set, Rl], stp ?_⟩
        rw [dj, ed_diff ec]
        omega
    · obtain ⟨R, y4, rfl, sm, atl, Rl, hR⟩ := hW
      refine ⟨_, rfl, q l H' sm nl0 ?_⟩
      rw [atl, rowE_of (x := c :: x) (y := TL.tl b) (l := R) (by rw [zl]; exact Rl) fun j hj => hR j (by omega) (by rw [← zl]; exact hj)]
theorem sc_distance_table : FnScope ["one", "two", "row", "rows", "letter"] ["one", "two"] (defScope s_distance_table) := ⟨rfl, rfl, rfl, by decide +kernel, rfl, by decide +kernel, by decide +kernel⟩
theorem ok_distance_table (T : Txt K mg ea) (c__row_above : Cl P w K mg base 1 "_row_above" (spRow K)) : Cl P w K mg base 2 "distance_table" spTable := by
  have nd := sc_distance_table.nd
  refine cl_of T.d_distance_table sc_distance_table (fun vs H Q E h => ?_) (fun f cdv A outer s H vs Q E0 hr h => ?_)
  · obtain ⟨a, b, rfl, _⟩ := h
    rfl
  · obtain ⟨a, b, rfl, al, bl, q⟩ := h
    refine ⟨_, (pss_cons (ps_set (i := 2) nd rfl (.inl rfl) (pe_listRg3 rfl (by rfl) T.b_list (by rfl) T.b_range (pa_cons (pe_callB call_len_str (by rfl) T.b_len PySem.boot_len (pa_cons (pv 1) pa_nil)) (pa_cons (pe_un un_neg pe_int) (pa_cons (pe_un un_neg pe_int) pa_nil)))))
      (pss_cons (ps_set (i := 3) nd rfl (.inl rfl) (pe_lst (pa_cons (pv 2) pa_nil)))
      (pss_cons (ps_for PassesOwn.never rfl (pi_str (pe_revS (pv 0))) (pg_name (i := 4) nd rfl (.inl rfl))
        (pss_cons (ps_set (i := 2) nd rfl (.inl rfl) (C8.pe_c c__row_above hr (by decide) (by rfl) (pa_cons (pv 2) (pa_cons (pv 4) (pa_cons (pv 1) pa_nil)))))
          (pss_one (ps_expr (pe_bm PySem.F.plainAttrs_list PySem.F.slot_list_append PySem.F.type_list_append mt_append (pv 3) (pa_cons (pv 2) pa_nil))))))
      (pss_one (ps_ret (pe_revLK (K := K) (pv 3))))))), ?_⟩
    have zl : (TL.tl b).length = b.length := rfl
    have za : (TL.tl a).length = a.length := rfl
    have bs : b.length ≤ sizeLine := Nat.le_trans bl (by decide)
    have as : a.length ≤ sizeLine := Nat.le_trans al (by decide)
    refine ⟨_, rfl, b, rfl, bs, _, rfl, _, rfl, _, _, _, _, rfl, RgC.neg (by omega) (by omega) (by omega) (by omega), by omega, fun p np => ?_⟩
    have e0 : rgC (b.length : Int) (-1) ((b.length : Int) - (-1)).toNat = (rowE [] (TL.tl b)).map V.int := by
      unfold rgC rowE
      rw [List.map_map, show ((b.length : Int) - (-1)).toNat = (TL.tl b).length + 1 by rw [zl]; omega]
      refine List.map_congr_left fun j hj => ?_
      have := List.mem_range.mp hj
      show V.int ((b.length : Int) + (j : Int) * (-1)) = V.int ((ed [] ((TL.tl b).drop j) : Nat) : Int)
      rw [ed_nil, List.length_drop, zl]
      congr 1
      omega
    rw [e0]
    have s1 := same_new (o := .lst ((rowE [] (TL.tl b)).map V.int)) np
    have at1 : (upd H p (.lst ((rowE [] (TL.tl b)).map V.int))) p = some (.lst ((rowE [] (TL.tl b)).map V.int)) := upd_same
    generalize upd H p (.lst ((rowE [] (TL.tl b)).map V.int)) = H1 at s1 at1 ⊢
    refine ⟨_, rfl, (by show 1 ≤ sizeLine; decide), fun l nl => ?_⟩
    have s2 := same_new (o := .lst [.ref p]) nl
    have at2 : (upd H1 l (.lst [.ref p])) l = some (.lst [.ref p]) := upd_same
    have at12 := s2 _ _ at1
    have sm2 := s1.trans s2
    have nl0 : H l = none := s1.free nl
    generalize upd H1 l (.lst [.ref p]) = H2 at s2 at2 at12 sm2 ⊢
    refine ⟨_, rfl, a, rfl, as, revS a, rfl, ?_⟩
    refine for_it (walk_str (z := revS a)) (fun i σ H' => ∃ (rs : List Addr) (r : Addr) (y4 : Option V), σ = [some (.str a), some (.str b), some (.ref r), some (.ref l), y4] ∧ Same H H' ∧ H' l = some (.lst (rs.map V.ref)) ∧ rs.length = i + 1 ∧ rs[i]? = some r ∧ (∀ r ∈ rs, H r = none) ∧
        ∀ (k : Nat) (r : Addr), rs[k]? = some r → H' r = some (.lst ((rowE ((TL.tl a).drop (a.length - k)) (TL.tl b)).map V.int)))
      ⟨[p], p, none, rfl, sm2, at2, rfl, rfl, fun r hr => by rw [List.mem_singleton.mp hr]; exact np, fun k r hk => ?_⟩ (fun _ _ _ _ _ => trivial) (fun i x σ Ha Hb hi hW y => ?_) (fun σ H' hW => ?_)
    · have : k = 0 := by
        have := (List.getElem?_eq_some_iff.mp hk).1
        simp at this
        exact this
      subst this
      obtain rfl : p = r := Option.some.inj hk
      rw [Nat.sub_zero, ← za, List.drop_length]
      exact at12
    · obtain ⟨rs, r, y4, rfl, sm, atl, rl, hlast, new, rows⟩ := hW
      obtain ⟨rfl, c, hc, rfl⟩ := y
      have hi : i < a.length := by
        have : (revS a).cps.size = a.length := by show (a.cps.toList.reverse.toArray).size = a.length; rw [List.size_toArray, List.length_reverse]; rfl
        omega
      have hc2 : (TL.tl a).reverse[i]? = some c := by rw [← revS_tl]; show (revS a).cps.toList[i]? = _; rw [Array.getElem?_toList]; exact hc
      rw [List.getElem?_reverse (by rw [za]; exact hi), za] at hc2
      have dr : (TL.tl a).drop (a.length - (i + 1)) = c :: (TL.tl a).drop (a.length - i) := by
        rw [drop_cons (by rw [za]; omega), show a.length - (i + 1) + 1 = a.length - i by omega]
        congr 1
        have := List.getElem?_eq_some_iff.mp hc2
        obtain ⟨h1, h2⟩ := this
        rw [← h2]
        congr 1
        omega
      refine ⟨_, rfl, _, rfl, _, rfl, r, c, b, (TL.tl a).drop (a.length - i), rfl, SqL.of (rows i r hlast), bl, fun r2 H3 s3 nr2 at3 => ?_⟩
      rw [← dr] at at3
      have atl3 := s3 _ _ atl
      refine ⟨_, rfl, .inl ⟨rfl, _, SqL.of atl3⟩, _, rfl, l, _, _, rfl, rfl, atl3, ?_, ?_⟩
      · rw [List.length_map, rl]
        exact Nat.lt_of_le_of_lt (by omega : i + 1 ≤ 1000) (by decide)
      · have r2l : r2 ≠ l := fun z => by rw [z, atl] at nr2; cases nr2
        have ne : ∀ r ∈ rs, r ≠ l := fun r hr z => by
          obtain ⟨k, hk, e⟩ := List.getElem_of_mem hr
          have h1 := rows k r (by rw [List.getElem?_eq_getElem hk, e])
          rw [z, atl] at h1
          have h2 := congrArg (fun l : List V => l[0]?) (HO.lst.inj (Option.some.inj h1))
          have h3 : (rs.map V.ref)[0]? = ((rowE ((TL.tl a).drop (a.length - k)) (TL.tl b)).map V.int)[0]? := h2
          rw [List.getElem?_map, List.getElem?_map, rowE_at (Nat.zero_le _), List.getElem?_eq_getElem (by omega : 0 < rs.length)] at h3
          cases h3
        refine ⟨rs ++ [r2], r2, _, rfl, same_mut (sm.trans s3) nl0, by rw [upd_same, List.map_append]; rfl, by rw [List.length_append, rl]; rfl, ?_, fun r hr => ?_, fun k r hk => ?_⟩
        · rw [List.getElem?_append_right (by omega), rl, Nat.sub_self]
          rfl
        · rcases List.mem_append.mp hr with m | m
          · exact new r m
          · rw [List.mem_singleton.mp m]
            exact sm.free nr2
        · rcases Nat.lt_or_ge k (i + 1) with h | h
          · rw [List.getElem?_append_left (by omega)] at hk
            rw [upd_ne (ne r (List.mem_of_getElem? hk))]
            exact s3 _ _ (rows k r hk)
          · rw [List.getElem?_append_right (by omega), rl] at hk
            have : k = i + 1 := by
              have := (List.getElem?_eq_some_iff.mp hk).1
              simp at this
              omega
            subst this
            rw [Nat.sub_self] at hk
            obtain rfl : r2 = r := Option.some.inj hk
            rw [upd_ne r2l]
            exact at3
    · obtain ⟨rs, r, y4, rfl, sm, atl, rl, hlast, new, rows⟩ := hW
      have ra : (revS a).cps.size = a.length := by show (a.cps.toList.reverse.toArray).size = a.length; rw [List.size_toArray, List.length_reverse]; rfl
      rw [ra] at rl hlast
      refine ⟨_, rfl, l, _, rfl, SqL.of atl, fun t nt => ?_⟩
      have st := same_new (o := .lst (rs.map V.ref).reverse) nt
      refine q t rs.reverse _ (sm.trans st) ⟨⟨?_, ?_, fun i r l2 h1 h2 => ?_⟩, sm.free nt, fun r hr => new r (List.mem_reverse.mp hr)⟩
      · rw [upd_same, List.map_reverse]
      · rw [List.length_reverse, rl, tabE_len, za]
      · have il : i < rs.length := by
          have := (List.getElem?_eq_some_iff.mp h1).1
          rwa [List.length_reverse] at this
        rw [List.getElem?_reverse il] at h1
        rw [tabE_at (by rw [za]; omega)] at h2
        obtain rfl := Option.some.inj h2
        have := st _ _ (rows _ _ h1)
        rw [this, rl, show a.length - (a.length + 1 - 1 - i) = i by omega]
end

end SH
set_option Elab.async false
set_option linter.all false
set_option maxRecDepth 100000
set_option maxHeartbeats 4000000
namespace SH
open PySem PySem.Spec PyProof.Rows L2
section
variable {P : Program} {w : World} {K : PySem.W.Frag} {mg : Str → Option Value} {base : Heap} {ea : Ea}
theorem T4At.but {H H' : Hp} {R : RT} {D : Addr} {l : List V} (hD : H D = some (.lst l)) (e : But D H H') (h : T4At K H R) : T4At K H' R := fun r m => but_tup (l := l) hD e (h r m)
/-- all places with their distances, ascending -/
def spPl35 (K : PySem.W.Frag) : Sp := fun vs H Q _ => ∃ (a : Addr) (L : PL) (z : Str), vs = [.ref a, .str z] ∧ HsAt K H a L ∧ L.length ≤ 8 ∧ (∀ q ∈ L, q.2.2.length ≤ 40) ∧ ((L.map (·.2)).map (·.1)).Pairwise (· < ·) ∧ z.length ≤ 100 ∧
  ∀ (l : Addr) (R : RT) (H' : Hp), Same H H' → H l = none → H' l = some (.lst (refs4 R)) → T4At K H' R → R.map (·.2) = allR (L.map (·.2)) z → Q (.ref l) H'
theorem tl_take35 (z : Str) (j : Nat) : TL.tl (cutS z none (some (j : Int))) = (TL.tl z).take j := by
  show (z.cps.toList.drop (HT.sIx z.length 0 none)).take (HT.sIx z.length z.length (some (j : Int)) - HT.sIx z.length 0 none) = z.cps.toList.take j
  rw [HT.sIx_nat, HT.sIx_none, List.drop_zero, Nat.sub_zero]
  have hl : z.cps.toList.length = z.length := rfl
  rcases Nat.le_total j z.length with h | h
  · rw [Nat.min_eq_left h]
  · rw [Nat.min_eq_right h, List.take_of_length_le (by omega), List.take_of_length_le (by omega)]
theorem row_first {x y : List Nat} : atI ((rowE x y).map V.int) 0 = some (.int ((ed x y : Nat) : Int)) := by
  refine atI_nat (j := 0) ?_
  rw [List.getElem?_map, rowE_at (Nat.zero_le _)]
  rfl
theorem sc__places_with_distance : FnScope ["house", "word", "found", "number", "text", "stop", "table", "start", "row"] ["house", "word"] (defScope s__places_with_distance) := ⟨rfl, rfl, rfl, by decide +kernel, rfl, by decide +kernel, by decide +kernel⟩
theorem ok__places_with_distance (T : Txt K mg ea) (c_distance_table : Cl P w K mg base 2 "distance_table" spTable) : Cl P w K mg base 3 "_places_with_distance" (spPl35 K) := by
  have nd := sc__places_with_distance.nd
  refine cl_of T.d__places_with_distance sc__places_with_distance (fun vs H Q E h => ?_) (fun f cdv A outer s H vs Q E0 hr h => ?_)
  · obtain ⟨a, L, z, rfl, _⟩ := h
    rfl
  · obtain ⟨a, L, z, rfl, hA, l8, t40, asc, z1, q⟩ := h
    refine ⟨_, (pss_cons (ps_set (i := 2) nd rfl (.inl rfl) (pe_lst pa_nil))
      (pss_cons (ps_for PassesOwn.never rfl (pi_listK (K := K) (pv 0)) (pg_tup rfl (pgs_cons (pg_name (i := 3) nd rfl (.inr rfl)) (pgs_cons (pg_name (i := 4) nd rfl (.inl rfl)) pgs_nil)))
        (pss_one (ps_for PassesOwn.never rfl (pi_range1 rfl T.b_range (pa_cons (pe_op op_add (pe_callB call_len_str (by rfl) T.b_len PySem.boot_len (pa_cons (pv 4) pa_nil)) pe_int) pa_nil)) (pg_name (i := 5) nd rfl (.inr rfl))
            (pss_cons (ps_set (i := 6) nd rfl (.inl rfl) (C8.pe_c c_distance_table hr (by decide) (by rfl) (pa_cons (pe_slice sl_str (pv 4) po_none (po_some (pv 5))) (pa_cons (pv 1) pa_nil))))
              (pss_one (ps_expr (pe_bm PySem.F.plainAttrs_list PySem.F.slot_list_extend PySem.F.type_list_extend mt_extend (pv 2) (pa_cons (pe_lc (own := [("start", 7), ("row", 8)]) (g := (gTup K 2 (gCons (gName 7) (gCons (gName 8) gNil)))) rfl nd (pi_enum (by rfl) T.b_enumerate (pa_cons (pv 6) pa_nil)) (blkOk_by (own := [("start", 7), ("row", 8)]) (N := ["house", "word", "found", "number", "text", "stop", "table", "start", "row"]) (sc := defScope s__places_with_distance) (by decide +kernel)) (fun _ _ _ _ _ => (pg_tup rfl (pgs_cons (pg_name (i := 7) nd rfl (.inl rfl)) (pgs_cons (pg_name (i := 8) nd rfl (.inl rfl)) pgs_nil)))) (fun _ _ _ _ _ => pts_nil) (fun _ _ _ _ _ => (pe_tup (pa_cons (pv 3) (pa_cons (pv 7) (pa_cons (pv 5) (pa_cons (pe_ix (ixl (K := K)) (pv 8) pe_int (fun _ _ => rfl)) pa_nil))))))) pa_nil))))))))
      (pss_one (ps_ret (pe_callB (cr_sortDK (K := K) hr.units) (by rfl) T.b_sorted (by decide +kernel) (pa_cons (pv 2) pa_nil)))))), ?_⟩
    have sz4 : 4 ≤ sizeLine := by decide
    have rl := refs_len L
    have big : ∀ (i j : Nat) (t : Addr × Int × Str), L[i]? = some t → j ≤ t.2.2.length → (fnd ((L.map (·.2)).take i) z ++ (List.range (j + 1)).flatMap (fndJ z t.2)).length ≤ 20000 := fun i j t ht hj => by
      have h1 := fnd_len (z := z) (h := (L.map (·.2)).take i) (by rw [List.length_take, List.length_map]; omega) (fun q hq => by
        obtain ⟨y, hy, rfl⟩ := List.mem_map.mp ((List.take_subset _ _) hq)
        exact t40 y hy)
      have h2 := sum_le (f := fndJ z t.2) (m := 41) (l := List.range (j + 1)) fun i hi => by
        have := List.mem_range.mp hi
        have := t40 t (List.mem_of_getElem? ht)
        unfold fndJ
        rw [List.length_map, List.length_range]
        omega
      rw [List.length_range] at h2
      rw [List.length_append]
      have := t40 t (List.mem_of_getElem? ht)
      omega
    refine ⟨Nat.zero_le _, fun F nF => ?_⟩
    have s0 := same_new (o := .lst []) nF
    refine ⟨_, rfl, a, rfl, ⟨_, s0.seq hA.1⟩, ?_⟩
    refine for_it (walk_list (K := K) (a := a) (xs := refs L)) (fun i σ H' => ∃ (R : RT) (y3 y4 y5 y6 y7 y8 : Option V), σ = [some (.ref a), some (.str z), some (.ref F), y3, y4, y5, y6, y7, y8] ∧ Same H H' ∧ H' F = some (.lst (refs4 R)) ∧ T4At K H' R ∧ R.map (·.2) = fnd ((L.map (·.2)).take i) z)
      ⟨[], _, _, _, _, _, _, rfl, s0, upd_same, (fun r m => nomatch m), rfl⟩ (fun i σ H' _ hW => ?_) (fun i x σ Ha Hb hi hW y => ?_) (fun σ H' hW => ?_)
    · obtain ⟨_, _, _, _, _, _, _, _, sm, _⟩ := hW
      exact sm.seq hA.1
    · obtain ⟨R, y3, y4, y5, y6, y7, y8, rfl, sm, atF, hR, eR⟩ := hW
      obtain ⟨rfl, hx⟩ := y
      obtain ⟨t, ht, tm, rfl⟩ := refs_at hx
      have tl := t40 t tm
      have ts : t.2.2.length ≤ sizeLine := Nat.le_trans tl (by decide)
      refine ⟨_, _, rfl, same_tup sm (hA.2 t tm), rfl, _, _, rfl, _, _, rfl, rfl, ?_⟩
      refine ⟨_, rfl, t.2.2, rfl, ts, _, _, rfl, rfl, _, rfl, by omega, by omega, ?_⟩
      have en : ((t.2.2.length : Int) + 1).toNat = t.2.2.length + 1 := by omega
      refine for_range (lo := 0) (n := ((t.2.2.length : Int) + 1).toNat) (fun j σ H' => ∃ (R : RT) (y5 y6 y7 y8 : Option V), σ = [some (.ref a), some (.str z), some (.ref F), some (.int t.2.1), some (.str t.2.2), y5, y6, y7, y8] ∧ Same H H' ∧ H' F = some (.lst (refs4 R)) ∧ T4At K H' R ∧ R.map (·.2) = fnd ((L.map (·.2)).take i) z ++ (List.range j).flatMap (fndJ z t.2))
        ⟨R, _, _, _, _, rfl, sm, atF, hR, by rw [eR]; simp⟩ (fun j σ H1 hj hW => ?_) (fun σ H1 hW => ?_)
      · obtain ⟨R, y5, y6, y7, y8, rfl, sm, atF, hR, eR⟩ := hW
        have e0 : (0 : Int) + (j : Int) = (j : Int) := Int.zero_add _
        simp only [e0]
        have cl : (cutS t.2.2 none (some (j : Int))).length ≤ 40 := Nat.le_trans (cutS_length _ _ _) tl
        have ct : TL.tl (cutS t.2.2 none (some (j : Int))) = (TL.tl t.2.2).take j := tl_take35 _ _
        refine ⟨_, rfl, _, rfl, (j : Int), rfl, t.2.2, rfl, ts, _, rfl, cutS t.2.2 none (some (j : Int)), z, rfl, by omega, by omega, fun tb rs H2 s2 nt => ?_⟩
        obtain ⟨hT, ntb, _⟩ := nt
        rw [ct] at hT
        have tlj : ((TL.tl t.2.2).take j).length = j := by rw [List.length_take]; have : (TL.tl t.2.2).length = t.2.2.length := rfl; omega
        have rsl : rs.length = j + 1 := by rw [hT.len, tabE_len, tlj]
        have atF2 := s2 _ _ atF
        refine ⟨_, rfl, .inl ⟨rfl, _, SqL.of atF2⟩, _, rfl, tb, _, rfl, SqL.of hT.at_, fun D nD => ?_⟩
        refine lc_w (walk_enum (K := K) (a := tb) (xs := rs.map V.ref)) nD (by rw [List.length_map]; omega) (fun H' e => SqL.of (e _ _ hT.at_)) (fun i acc H' => ∃ S : RT, acc = refs4 S ∧ T4At K H' S ∧ S.map (·.2) = (List.range i).map fun i => row4 z t.2 i j) (fun _ _ => ⟨[], rfl, (fun r m => nomatch m), rfl⟩) (fun i acc Ha Hb l' hD bt ⟨S, e1, e2, e3⟩ => ⟨S, e1, e2.but hD bt, e3⟩) (fun i H x H' y => by obtain ⟨tt, x1, x2, _, nt, rfl, _⟩ := y; exact same_new nt) (fun i x acc Ha Hb Qn Qf hi sm3 y r at_ kn kf => ?_) (fun acc H3 s3 at3 _ r => ?_)
        · obtain ⟨tt, x1, x2, rfl, ntt, rfl, e1, e2⟩ := y
          cases e1
          rw [List.length_map, rsl] at hi
          obtain ⟨S, rfl, hS, eS⟩ := r
          obtain ⟨ra, era⟩ : ∃ ra, rs[i]? = some ra := ⟨_, List.getElem?_eq_getElem (by omega)⟩
          have e2 : (rs.map V.ref)[i]? = some x2 := e2
          rw [List.getElem?_map, era] at e2
          cases e2
          have hrow := hT.row i ra _ era (tabE_at (by rw [tlj]; omega))
          have hrow2 := sm3 _ _ hrow
          refine ⟨_, _, rfl, .inl (.inl upd_same), rfl, _, _, rfl, _, _, rfl, rfl, rfl, ?_⟩
          refine ⟨_, rfl, _, rfl, _, rfl, _, rfl, ra, _, _, _, rfl, rfl, SqL.of hrow2, row_first, sz4, fun u nu => ?_⟩
          have su := same_new (o := .tup [.int t.2.1, .int (i : Int), .int (j : Int), .int ((ed (((TL.tl t.2.2).take j).drop i) (TL.tl z) : Nat) : Int)]) nu
          refine kn _ _ su ⟨S ++ [(u, row4 z t.2 i j)], by rw [refs4_app]; rfl, fun x m => ?_, by rw [List.map_append, eS, List.range_succ, List.map_append]; rfl⟩
          rcases List.mem_append.mp m with m | m
          · exact same_tup su (hS x m)
          · rw [List.mem_singleton.mp m]
            refine SqT.of ?_
            show _ = some (HO.tup [.int t.2.1, .int (i : Int), .int (j : Int), .int ((ed (TL.tl z) (cutW (TL.tl t.2.2) i j) : Nat) : Int)])
            rw [upd_same, ed_symm]
            rfl
        · obtain ⟨S, rfl, hS, eS⟩ := r
          rw [List.length_map, rsl] at eS
          have atF3 := s3 _ _ atF2
          have ln := congrArg List.length eR
          have ln2 := congrArg List.length eS
          rw [List.length_map] at ln
          rw [List.length_map, List.length_map, List.length_range] at ln2
          have eRS : (R ++ S).map (·.2) = fnd ((L.map (·.2)).take i) z ++ (List.range (j + 1)).flatMap (fndJ z t.2) := by
            rw [List.map_append, eR, eS, flatR_range, List.append_assoc]
            rfl
          have bg := big i j t ht (by omega)
          rw [← eRS, List.length_map, List.length_append] at bg
          refine ⟨F, D, _, _, rfl, rfl, atF3, at3, ?_, ?_⟩
          · rw [refs4_len, refs4_len]
            exact Nat.le_trans bg (by decide)
          refine ⟨R ++ S, _, _, _, _, rfl, same_mut (sm.trans (s2.trans s3)) nF, by rw [upd_same, refs4_app], fun x m => ?_, eRS⟩
          have hx : SqT K H3 x.1 (v4 x.2) := by
            rcases List.mem_append.mp m with m | m
            · exact same_tup (s2.trans s3) (hR x m)
            · exact hS x m
          exact but_tup (l := refs4 R) atF3 but_upd hx
      · obtain ⟨R, y5, y6, y7, y8, rfl, sm, atF, hR, eR⟩ := hW
        rw [en] at eR
        refine ⟨R, _, _, _, _, _, _, rfl, sm, atF, hR, ?_⟩
        rw [eR]
        unfold fnd
        rw [flatR_snoc (t := t.2) (by rw [List.getElem?_map, ht]; rfl)]
        rfl
    · obtain ⟨R, y3, y4, y5, y6, y7, y8, rfl, sm, atF, hR, eR⟩ := hW
      rw [rl, List.take_of_length_le (by rw [List.length_map]; exact Nat.le_refl _)] at eR
      refine ⟨_, rfl, Q4, d4, F, R.map fun r => (V.ref r.1, r.2), rfl, ?_, fun x m => ?_, alike_4 (fun z : V × Q4 => z.2) _, able_4 (fun z : V × Q4 => z.2) _, fun x m => deep_4 _, fun p np => ?_⟩
      · rw [List.map_map]
        exact SqL.of atF
      · obtain ⟨r, hr, rfl⟩ := List.mem_map.mp m
        exact dp_4 (hR r hr)
      · have e1 := sort_fnd asc z (Z := R.map fun r => (V.ref r.1, r.2)) (by rw [List.map_map]; exact eR)
        have pm := List.mergeSort_perm (R.map fun r => (V.ref r.1, r.2)) (PySem.W.dataLe false fun z : V × Q4 => d4 z.2)
        generalize (R.map fun r => (V.ref r.1, r.2)).mergeSort (PySem.W.dataLe false fun z : V × Q4 => d4 z.2) = S at e1 pm ⊢
        have sp := same_new (o := .lst (S.map (·.1))) np
        obtain ⟨R', eR'⟩ : ∃ R' : RT, S = R'.map fun r => (V.ref r.1, r.2) := by
          have : ∀ (l : List (V × Q4)), (∀ x ∈ l, ∃ r ∈ R, x = (V.ref r.1, r.2)) → ∃ R' : RT, l = R'.map fun r => (V.ref r.1, r.2) := fun l => by
            induction l with
            | nil => exact fun _ => ⟨[], rfl⟩
            | cons x l ih =>
              intro h
              obtain ⟨r, _, er⟩ := h x (List.mem_cons_self ..)
              obtain ⟨R', e⟩ := ih fun y m => h y (List.mem_cons_of_mem _ m)
              exact ⟨r :: R', by rw [List.map_cons, ← e, er]⟩
          refine this S fun x m => ?_
          obtain ⟨r, hr, e⟩ := List.mem_map.mp (pm.mem_iff.mp m)
          exact ⟨r, hr, e.symm⟩
        have es : S.map (·.1) = refs4 R' := by rw [eR', List.map_map]; rfl
        refine q p R' _ (sm.trans sp) (sm.free np) (by rw [upd_same, es]) (fun r m => ?_) (by rw [← e1, eR', List.map_map]; rfl)
        have : (V.ref r.1, r.2) ∈ S := by rw [eR']; exact List.mem_map.mpr ⟨r, m, rfl⟩
        obtain ⟨r0, h0, e0⟩ := List.mem_map.mp (pm.mem_iff.mp this)
        obtain ⟨e3, e2⟩ := Prod.mk.inj e0
        have e3 := V.ref.inj e3
        have := hR r0 h0
        rw [e2, e3] at this
        exact same_tup sp this
end

end SH
set_option Elab.async false
set_option linter.all false
set_option maxRecDepth 100000
set_option maxHeartbeats 4000000
namespace SH
open PySem PySem.Spec PyProof.Rows L2
section
variable {P : Program} {w : World} {K : PySem.W.Frag} {mg : Str → Option Value} {base : Heap} {ea : Ea}
/-- those within so many changes -/
def nearR (h : List (Int × Str)) (z : Str) (m : Int) : List Q4 := (allR h z).filter fun q => decide (q.2.2.2 ≤ m)
def spNearP (K : PySem.W.Frag) (ea : Ea) : Sp := fun vs H Q E => ∃ (a : Addr) (L : PL) (z : Str) (m : Int), vs = [.ref a, .str z, .int m] ∧ HsAt K H a L ∧ L.length ≤ 8 ∧ (∀ q ∈ L, q.2.2.length ≤ 40) ∧ ((L.map (·.2)).map (·.1)).Pairwise (· < ·) ∧ z.length ≤ 100 ∧ Small m ∧
  (¬ (0 ≤ m ∧ m ≤ 3) → Errs E H ea.c_OutOfRange m) ∧
  (0 ≤ m → m ≤ 3 → ∀ (l : Addr) (R : RT) (H' : Hp), Same H H' → H l = none → H' l = some (.lst (refs4 R)) → T4At K H' R → R.map (·.2) = nearR (L.map (·.2)) z m → Q (.ref l) H')
theorem flt_snoc {α β : Type} {A : List α} {i : Nat} {t : α} {f : α → Bool} (h : A[i]? = some t) : (A.take (i + 1)).filter f = (A.take i).filter f ++ if f t = true then [t] else [] := by
  rw [List.take_add_one, h, List.filter_append]
  congr 1
  cases e : f t <;> simp [e]
theorem sc_near_places : FnScope ["house", "word", "most", "place"] ["house", "word", "most"] (defScope s_near_places) := ⟨rfl, rfl, rfl, by decide +kernel, rfl, by decide +kernel, by decide +kernel⟩
theorem ok_near_places (T : Txt K mg ea) (c__places_with_distance : Cl P w K mg base 3 "_places_with_distance" (spPl35 K)) : ClX P w K mg base 4 "near_places" (spNearP K ea) := by
  have nd := sc_near_places.nd
  refine clx_of T.d_near_places sc_near_places (fun vs H Q E h => ?_) (fun f cdv A outer s H vs Q E hr h => ?_)
  · obtain ⟨a, L, z, m, rfl, _⟩ := h
    rfl
  · obtain ⟨a, L, z, m, rfl, hA, l8, t40, asc, z1, hm, er, q⟩ := h
    refine ⟨_, (pss_cons (ps_if (pt_not (pt_chain op_le op_le pe_int (pv 2) (pe_k T.m__MOST_CHANGES)))
        (pss_one (ps_raise rfl (takes_of rfl rfl rfl rfl) (pmk_at T.x_OutOfRange (ok_init T) hr (by decide) (by rfl) (pa_cons (pv 2) pa_nil))))
        pss_nil)
      (pss_one (ps_ret (pe_lc (own := [("place", 3)]) (g := (gName 3)) rfl nd (pi_listK (K := K) (C8.pe_c c__places_with_distance hr (by decide) (by rfl) (pa_cons (pv 0) (pa_cons (pv 1) pa_nil)))) (blkOk_by (own := [("place", 3)]) (N := ["house", "word", "most", "place"]) (sc := defScope s_near_places) (by decide +kernel)) (fun _ _ _ _ _ => (pg_name (i := 3) nd rfl (.inl rfl))) (fun _ _ _ _ _ => pts_one (pt_cmpR op_le (pe_ix (ixt (K := K)) (pv 3) pe_int (fun _ _ => rfl)) (pv 2) (nomark _))) (fun _ _ _ _ _ => (pv 3)))))), ?_⟩
    repeat (first | refine ⟨_, rfl, ?_⟩ | refine ⟨rfl, ?_⟩ | refine ⟨_, _, rfl, rfl, ?_⟩ | refine ⟨_, _, _, rfl, rfl, ?_⟩)
    by_cases c1 : 0 ≤ m
    · rw [decide_eq_true c1]
      refine iteT ⟨_, _, rfl, rfl, _, rfl, ?_⟩
      by_cases c2 : m ≤ 3
      · rw [decide_eq_true c2]
        refine iteF ?_
        refine ⟨_, rfl, _, rfl, a, L, z, rfl, hA, l8, t40, asc, z1, fun l R H1 s1 nl at1 hR eR => ?_⟩
        refine ⟨l, rfl, ⟨_, SqL.of at1⟩, fun D nD => ?_⟩
        have ln := congrArg List.length eR
        rw [List.length_map] at ln
        have al := allR_len (h := L.map (·.2)) (z := z) (by rw [List.length_map]; exact l8) (fun q hq => by
          obtain ⟨y, hy, rfl⟩ := List.mem_map.mp hq
          exact t40 y hy)
        refine lc_w (walk_list (xs := refs4 R)) nD (by rw [refs4_len]; omega) (fun H' e => SqL.of (e _ _ at1)) (fun i acc _ => acc = refs4 ((R.take i).filter fun r => decide (r.2.2.2.2 ≤ m))) (fun _ _ => rfl) (fun _ _ _ _ _ _ _ r => r) (fun i H x H' y => by rw [y.1]; exact Same.refl _) (fun i x acc Ha Hb Qn Qf hi sm y r at_ kn kf => ?_) (fun acc H2 s2 at2 _ r => ?_)
        · obtain ⟨rfl, hx⟩ := y
          obtain ⟨t, ht, tm, rfl⟩ := refs4_at hx
          subst r
          refine ⟨rfl, _, rfl, t.1, _, _, _, rfl, rfl, same_tup sm (hR t tm), (rfl : atI (v4 t.2) 3 = some (.int t.2.2.2.2)), _, rfl, _, _, rfl, rfl, _, rfl, ?_⟩
          by_cases h : t.2.2.2.2 ≤ m
          · rw [decide_eq_true h]
            exact iteT ⟨_, rfl, kn _ _ (Same.refl _) (by rw [flt_snoc (β := Unit) ht, if_pos (decide_eq_true h), refs4_app]; rfl)⟩
          · rw [decide_eq_false h]
            exact iteF (kf _ (Same.refl _) (by rw [flt_snoc (β := Unit) ht, if_neg (by rw [decide_eq_true_eq]; exact h), List.append_nil]))
        · rw [List.take_of_length_le (by rw [refs4_len]; exact Nat.le_refl _)] at r
          subst r
          refine q c1 c2 D (R.filter fun r => decide (r.2.2.2.2 ≤ m)) H2 (s1.trans s2) (s1.free nD) at2 (fun r hr => same_tup s2 (hR r (List.mem_filter.mp hr).1)) ?_
          unfold nearR
          rw [← eR, List.filter_map]
          rfl
      · rw [decide_eq_false c2]
        exact iteT ⟨_, rfl, mk_at T.x_OutOfRange.o T.x_OutOfRange.no hm (er (fun z => c2 z.2))⟩
    · rw [decide_eq_false c1]
      exact iteF ⟨_, rfl, iteT ⟨_, rfl, mk_at T.x_OutOfRange.o T.x_OutOfRange.no hm (er (fun z => c1 z.1))⟩⟩
/-- a number of changes that is out of range is refused -/
def spRef35 (K : PySem.W.Frag) : Sp := fun vs H Q _ => ∃ (a : Addr) (L : PL) (z : Str) (m : Int), vs = [.ref a, .str z, .int m] ∧ HsAt K H a L ∧ L.length ≤ 8 ∧ (∀ q ∈ L, q.2.2.length ≤ 40) ∧ ((L.map (·.2)).map (·.1)).Pairwise (· < ·) ∧ z.length ≤ 100 ∧ Small m ∧ ¬ (0 ≤ m ∧ m ≤ 3) ∧ ∀ H', Same H H' → Q (.bl true) H'
theorem sc__law_refused : FnScope ["house", "word", "most", "e"] ["house", "word", "most"] (defScope s__law_refused) := ⟨rfl, rfl, rfl, by decide +kernel, rfl, by decide +kernel, by decide +kernel⟩
theorem ok__law_refused (T : Txt K mg ea) (c_near_places : ClX P w K mg base 4 "near_places" (spNearP K ea)) : Cl P w K mg base 5 "_law_refused" (spRef35 K) := by
  have nd := sc__law_refused.nd
  refine cl_of T.d__law_refused sc__law_refused (fun vs H Q E h => ?_) (fun f cdv A outer s H vs Q E hr h => ?_)
  · obtain ⟨a, L, z, m, rfl, _⟩ := h
    rfl
  · obtain ⟨a, L, z, m, rfl, hA, l8, t40, asc, z1, hm, bad, q⟩ := h
    refine ⟨_, (pss_cons (ps_try_hds rfl rfl takes0 (fun W pn xe tk _ => (pss_one (ps_expr (pe_cx c_near_places hr (by decide) (fun σ => passAt tk σ) (by rfl) (pa_cons (pv 0) (pa_cons (pv 1) (pa_cons (pv 2) pa_nil)))))))
        (HdsN.named ⟨rfl, by decide, Or.inl T.x_OutOfRange.g⟩ nd (i := 3) rfl rfl (fun a o c d l hz hf => (pss_one (ps_ret (pe_cmpR op_eq (pe_xf T.x_OutOfRange.f T.x_OutOfRange.no hz hf (pv 3)) (pv 2) (nomark _)))))
        HdsN.nil))
      (pss_one (ps_ret pe_bl))), ?_⟩
    refine ⟨_, rfl, _, rfl, _, rfl, a, L, z, m, rfl, hA, l8, t40, asc, z1, hm, fun _ d H2 s2 nd2 e3 => ?_, fun c1 c2 => absurd ⟨c1, c2⟩ bad⟩
    refine wHds_take T.e_OutOfRange_OutOfRange fun a0 na => ?_
    refine ⟨_, rfl, rfl, rfl, d, _, _, rfl, e3, rfl, _, rfl, rfl, ?_⟩
    rw [decide_eq_true rfl]
    exact q H2 s2
end

end SH
set_option Elab.async false
set_option linter.all false
set_option maxRecDepth 100000
set_option maxHeartbeats 4000000
namespace SH
open PySem PySem.Spec PyProof.Rows L2
section
variable {P : Program} {w : World} {K : PySem.W.Frag} {mg : Str → Option Value} {base : Heap} {ea : Ea}
/-- a row from the beginnings on -/
def pfx (x v : List Nat) : List Int := (List.range (x.length + 1)).map fun k => ((ed (x.take k) v : Nat) : Int)
def outF (x u : List Nat) (n : Nat) : List Int := (List.range n).map fun m => ((ed x (u.take m) : Nat) : Int)
theorem pfx_len (x v : List Nat) : (pfx x v).length = x.length + 1 := by unfold pfx; rw [List.length_map, List.length_range]
theorem pfx_at {x v : List Nat} {k : Nat} (h : k ≤ x.length) : atI ((pfx x v).map V.int) (k : Int) = some (.int ((ed (x.take k) v : Nat) : Int)) := by
  refine atI_nat ?_
  unfold pfx
  rw [List.getElem?_map, List.getElem?_map, List.getElem?_range (by omega)]
  rfl
theorem pfx_last {x v : List Nat} : atI ((pfx x v).map V.int) (-1) = some (.int ((ed x v : Nat) : Int)) := by
  refine atI_neg1 (fun z => ?_) ?_
  · have := congrArg List.length z
    rw [List.length_map, pfx_len] at this
    cases this
  · rw [List.getLast?_eq_getElem?, List.length_map, pfx_len, Nat.add_sub_cancel]
    unfold pfx
    rw [List.getElem?_map, List.getElem?_map, List.getElem?_range (by omega)]
    show some (V.int ((ed (x.take x.length) v : Nat) : Int)) = _
    rw [List.take_length]
theorem tl_cut_from35 {z : Str} {s : Nat} : TL.tl (cutS z (some (s : Int)) none) = (TL.tl z).drop s := by
  show (z.cps.toList.drop (HT.sIx z.length 0 (some (s : Int)))).take (HT.sIx z.length z.length none - HT.sIx z.length 0 (some (s : Int))) = z.cps.toList.drop s
  rw [HT.sIx_nat, HT.sIx_none]
  have hl : z.cps.toList.length = z.length := rfl
  rcases Nat.le_total s z.length with h | h
  · rw [Nat.min_eq_left h, List.take_of_length_le (by rw [List.length_drop, hl]; exact Nat.le_refl _)]
  · rw [Nat.min_eq_right h, Nat.sub_self, List.take_zero, List.drop_eq_nil_of_le (by omega)]
def spFrom35 (K : PySem.W.Frag) : Sp := fun vs H Q _ => ∃ (z t : Str) (s : Nat), vs = [.str z, .str t, .int (s : Int)] ∧ z.length ≤ 100 ∧ t.length ≤ 100 ∧
  ∀ (l : Addr) (H' : Hp), Same H H' → H l = none → H' l = some (.lst ((outF (TL.tl z) ((TL.tl t).drop s) (((TL.tl t).drop s).length + 1)).map V.int)) → Q (.ref l) H'
theorem sc__law_from : FnScope ["word", "text", "start", "row", "out", "letter", "after", "i"] ["word", "text", "start"] (defScope s__law_from) := ⟨rfl, rfl, rfl, by decide +kernel, rfl, by decide +kernel, by decide +kernel⟩
theorem ok__law_from (T : Txt K mg ea) : Cl P w K mg base 1 "_law_from" (spFrom35 K) := by
  have nd := sc__law_from.nd
  refine cl_of T.d__law_from sc__law_from (fun vs H Q E h => ?_) (fun f cdv A outer s0 H vs Q E0 hr h => ?_)
  · obtain ⟨z, t, s, rfl, _⟩ := h
    rfl
  · obtain ⟨z, t, s, rfl, zl, tl, q⟩ := h
    refine ⟨_, (pss_cons (ps_set (i := 3) nd rfl (.inl rfl) (pe_listRg rfl (by rfl) T.b_list (prg_1 (by rfl) T.b_range (pe_op op_add (pe_callB call_len_str (by rfl) T.b_len PySem.boot_len (pa_cons (pv 0) pa_nil)) pe_int))))
      (pss_cons (ps_set (i := 4) nd rfl (.inl rfl) (pe_lst (pa_cons (pe_ix (ixl (K := K)) (pv 3) (pe_un un_neg pe_int) (fun _ _ => rfl)) pa_nil)))
      (pss_cons (ps_for PassesOwn.never rfl (pi_str (pe_slice sl_str (pv 1) (po_some (pv 2)) po_none)) (pg_name (i := 5) nd rfl (.inl rfl))
        (pss_cons (ps_set (i := 6) nd rfl (.inl rfl) (pe_lst (pa_cons (pe_op op_add (pe_ix (ixl (K := K)) (pv 3) pe_int (fun _ _ => rfl)) pe_int) pa_nil)))
          (pss_cons (ps_for PassesOwn.never rfl (pi_range1 rfl T.b_range (pa_cons (pe_callB call_len_str (by rfl) T.b_len PySem.boot_len (pa_cons (pv 0) pa_nil)) pa_nil)) (pg_name (i := 7) nd rfl (.inl rfl))
            (pss_one (ps_expr (pe_bm PySem.F.plainAttrs_list PySem.F.slot_list_append PySem.F.type_list_append mt_append (pv 6) (pa_cons (pe_callB (call_min3Nu rfl) (by rfl) T.b_min (by decide +kernel) (pa_cons (pe_op op_add (pe_ix (ixl (K := K)) (pv 3) (pv 7) (fun _ _ => rfl)) (pe_callTy call_int1 (by rfl) T.b_int (by decide +kernel) (pa_cons (pe_cmpR op_ne (pe_ix ix_str (pv 0) (pv 7) (fun _ _ => rfl)) (pv 5) (nomark _)) pa_nil))) (pa_cons (pe_op op_add (pe_ix (ixl (K := K)) (pv 3) (pe_op op_add (pv 7) pe_int) (fun _ _ => rfl)) pe_int) (pa_cons (pe_op op_add (pe_ix (ixl (K := K)) (pv 6) (pv 7) (fun _ _ => rfl)) pe_int) pa_nil)))) pa_nil)))))
          (pss_cons (ps_set (i := 3) nd rfl (.inl rfl) (pv 6))
          (pss_one (ps_expr (pe_bm PySem.F.plainAttrs_list PySem.F.slot_list_append PySem.F.type_list_append mt_append (pv 4) (pa_cons (pe_ix (ixl (K := K)) (pv 3) (pe_un un_neg pe_int) (fun _ _ => rfl)) pa_nil))))))))
      (pss_one (ps_ret (pv 4)))))), ?_⟩
    have zs : z.length ≤ sizeLine := Nat.le_trans zl (by decide)
    have ts : t.length ≤ sizeLine := Nat.le_trans tl (by decide)
    have ez : (TL.tl z).length = z.length := rfl
    refine ⟨_, rfl, z, rfl, zs, _, _, rfl, rfl, _, rfl, ?_, fun rp nr => ?_⟩
    · unfold RgOk
      omega
    have e0 : rgV 0 ((z.length : Int) + 1) = (pfx (TL.tl z) []).map V.int := by
      unfold rgV pfx
      rw [List.map_map, show ((z.length : Int) + 1 - 0).toNat = (TL.tl z).length + 1 by rw [ez]; omega]
      refine List.map_congr_left fun j hj => ?_
      have := List.mem_range.mp hj
      show V.int (0 + (j : Int)) = V.int ((ed ((TL.tl z).take j) [] : Nat) : Int)
      rw [ed_nil2, List.length_take, Nat.min_eq_left (by omega), Int.zero_add]
    rw [e0]
    have s1 := same_new (o := .lst ((pfx (TL.tl z) []).map V.int)) nr
    have at1 : (upd H rp (.lst ((pfx (TL.tl z) []).map V.int))) rp = some (.lst ((pfx (TL.tl z) []).map V.int)) := upd_same
    generalize upd H rp (.lst ((pfx (TL.tl z) []).map V.int)) = H1 at s1 at1 ⊢
    refine ⟨_, rfl, _, rfl, rp, _, _, _, rfl, rfl, SqL.of at1, pfx_last, (by show 1 ≤ sizeLine; decide), fun O nO => ?_⟩
    have s2 := same_new (o := .lst [.int ((ed (TL.tl z) [] : Nat) : Int)]) nO
    have nO0 : H O = none := s1.free nO
    have cu := tl_cut_from35 (z := t) (s := s)
    obtain ⟨u, eu⟩ : ∃ u, u = cutS t (some (s : Int)) none := ⟨_, rfl⟩
    refine ⟨_, rfl, _, rfl, (s : Int), rfl, t, rfl, ts, u, congrArg V.str eu.symm, ?_⟩
    rw [← eu] at cu
    rw [← cu] at q
    have ul : u.length ≤ 100 := by
      have := cutS_length t (some (s : Int)) none
      rw [← eu] at this
      omega
    have eul : (TL.tl u).length = u.length := rfl
    refine for_it walk_str (fun i σ H' => ∃ (r : Addr) (y5 y6 y7 : Option V), σ = [some (.str z), some (.str t), some (.int (s : Int)), some (.ref r), some (.ref O), y5, y6, y7] ∧ Same H H' ∧ H' r = some (.lst ((pfx (TL.tl z) ((TL.tl u).take i)).map V.int)) ∧ r ≠ O ∧ H' O = some (.lst ((outF (TL.tl z) (TL.tl u) (i + 1)).map V.int)))
      ⟨rp, _, _, _, rfl, s1.trans s2, s2 _ _ at1, ne_of_none at1 nO, upd_same⟩ (fun _ _ _ _ _ => trivial) (fun i x σ Ha Hb hi hW y => ?_) (fun σ H' hW => ?_)
    · obtain ⟨r, y5, y6, y7, rfl, sm, atr, rO, atO⟩ := hW
      obtain ⟨rfl, c, hc, rfl⟩ := y
      have hc2 : (TL.tl u)[i]? = some c := by rw [← hc]; exact Array.getElem?_toList
      have tk : (TL.tl u).take (i + 1) = (TL.tl u).take i ++ [c] := by rw [List.take_add_one, hc2]; rfl
      have r0 := pfx_at (x := TL.tl z) (v := (TL.tl u).take i) (k := 0) (Nat.zero_le _)
      refine ⟨_, rfl, r, _, _, _, rfl, rfl, SqL.of atr, r0, _, _, rfl, rfl, (by show 1 ≤ sizeLine; decide), fun p np => ?_⟩
      have sp := same_new (o := .lst [.int (((ed ((TL.tl z).take 0) ((TL.tl u).take i) : Nat) : Int) + 1)]) np
      have np0 : H p = none := sm.free np
      have first : ([V.int (((ed ((TL.tl z).take 0) ((TL.tl u).take i) : Nat) : Int) + 1)] : List V) = ((List.range (0 + 1)).map fun k => V.int ((ed ((TL.tl z).take k) ((TL.tl u).take (i + 1)) : Nat) : Int)) := by
        have il : i < (TL.tl u).length := (List.getElem?_eq_some_iff.mp hc2).1
        show _ = [V.int ((ed [] ((TL.tl u).take (i + 1)) : Nat) : Int)]
        rw [List.take_zero, ed_nil, ed_nil, List.length_take, List.length_take, Nat.min_eq_left (by omega), Nat.min_eq_left (by omega)]
        rfl
      rw [first]
      rw [first] at sp
      have pO : p ≠ O := fun e => by rw [e, atO] at np; cases np
      have pr : p ≠ r := fun e => by rw [e, atr] at np; cases np
      have atp : (upd Hb p (.lst ((List.range (0 + 1)).map fun k => V.int ((ed ((TL.tl z).take k) ((TL.tl u).take (i + 1)) : Nat) : Int)))) p = some (.lst ((List.range (0 + 1)).map fun k => V.int ((ed ((TL.tl z).take k) ((TL.tl u).take (i + 1)) : Nat) : Int))) := upd_same
      have atr1 := sp _ _ atr
      have atO1 := sp _ _ atO
      have sm1 := sm.trans sp
      generalize upd Hb p (.lst ((List.range (0 + 1)).map fun k => V.int ((ed ((TL.tl z).take k) ((TL.tl u).take (i + 1)) : Nat) : Int))) = H2 at sp atp atr1 atO1 sm1 ⊢
      refine ⟨_, rfl, z, rfl, zs, _, rfl, by omega, by omega, ?_⟩
      refine for_range (lo := 0) (n := ((z.length : Nat) : Int).toNat) (fun j σ H' => ∃ (y7 : Option V), σ = [some (.str z), some (.str t), some (.int (s : Int)), some (.ref r), some (.ref O), some (.str ⟨#[c]⟩), some (.ref p), y7] ∧ Same H H' ∧ H' r = some (.lst ((pfx (TL.tl z) ((TL.tl u).take i)).map V.int)) ∧ H' O = some (.lst ((outF (TL.tl z) (TL.tl u) (i + 1)).map V.int)) ∧
          H' p = some (.lst ((List.range (j + 1)).map fun k => V.int ((ed ((TL.tl z).take k) ((TL.tl u).take (i + 1)) : Nat) : Int))))
        ⟨_, rfl, sm1, atr1, atO1, atp⟩ (fun j σ H3 hj hW => ?_) (fun σ H3 hW => ?_)
      · obtain ⟨y7, rfl, sm3, atr3, atO3, atp3⟩ := hW
        rw [Int.toNat_natCast] at hj
        have e0 : (0 : Int) + (j : Int) = (j : Int) := Int.zero_add _
        simp only [e0]
        have g : (TL.tl z)[j]? = some (TL.tl z)[j] := List.getElem?_eq_getElem (by rw [ez]; exact hj)
        have tz : (TL.tl z).take (j + 1) = (TL.tl z).take j ++ [(TL.tl z)[j]] := by rw [List.take_add_one, g]; rfl
        have a1 := pfx_at (x := TL.tl z) (v := (TL.tl u).take i) (k := j) (by omega)
        have a2 := pfx_at (x := TL.tl z) (v := (TL.tl u).take i) (k := j + 1) (by omega)
        have a3 : atI ((List.range (j + 1)).map fun k => V.int ((ed ((TL.tl z).take k) ((TL.tl u).take (i + 1)) : Nat) : Int)) (j : Int) = some (.int ((ed ((TL.tl z).take j) ((TL.tl u).take (i + 1)) : Nat) : Int)) := atI_nat (by rw [List.getElem?_map, List.getElem?_range (by omega)]; rfl)
        have e1 : (j : Int) + 1 = ((j + 1 : Nat) : Int) := by omega
        have sn := ed_snoc (TL.tl z)[j] c ((TL.tl z).take j) ((TL.tl u).take i)
        rw [← tz, ← tk] at sn
        generalize (TL.tl z)[j] = d at g sn tz
        refine ⟨_, rfl, .inl ⟨rfl, _, SqL.of atp3⟩, ?_⟩
        refine ⟨_, rfl, _, rfl, r, _, _, _, rfl, rfl, SqL.of atr3, a1, ?_⟩
        refine ⟨_, rfl, _, rfl, z, _, _, rfl, rfl, zs, atI_nat g, _, rfl, rfl, .inr ⟨_, rfl, _, _, rfl, rfl, ?_⟩⟩
        refine ⟨_, rfl, _, rfl, _, _, rfl, rfl, r, _, _, _, rfl, rfl, SqL.of atr3, by rw [e1]; exact a2, _, _, rfl, rfl, ?_⟩
        refine ⟨_, rfl, _, rfl, p, _, _, _, rfl, rfl, SqL.of atp3, a3, _, _, rfl, rfl, ?_⟩
        refine ⟨_, _, _, _, rfl, nuMin3_int _ _ _, ?_⟩
        have cst : (if (!decide (V.str ⟨#[d]⟩ = V.str ⟨#[c]⟩)) = true then (1 : Int) else 0) = ((if d = c then 0 else 1 : Nat) : Int) := by
          by_cases h : d = c
          · subst h
            rw [decide_eq_true rfl, if_pos rfl]
            rfl
          · have : ¬ V.str ⟨#[d]⟩ = V.str ⟨#[c]⟩ := fun h2 => h (by
              have h2 := Str.mk.inj (V.str.inj h2)
              simpa using h2)
            rw [decide_eq_false this, if_neg h]
            rfl
        rw [cst]
        have ev : min (((ed ((TL.tl z).take j) ((TL.tl u).take i) : Nat) : Int) + ((if d = c then 0 else 1 : Nat) : Int)) (min (((ed ((TL.tl z).take (j + 1)) ((TL.tl u).take i) : Nat) : Int) + 1) (((ed ((TL.tl z).take j) ((TL.tl u).take (i + 1)) : Nat) : Int) + 1)) = ((ed ((TL.tl z).take (j + 1)) ((TL.tl u).take (i + 1)) : Nat) : Int) := by
          rw [sn]
          generalize (if d = c then 0 else 1 : Nat) = cc
          omega
        rw [ev]
        refine ⟨p, _, _, rfl, rfl, atp3, ?_, ?_⟩
        · rw [List.length_map, List.length_range]
          exact Nat.lt_of_lt_of_le (by omega : j + 1 < 1000) (by decide)
        refine ⟨_, rfl, same_mut sm3 np0, by rw [upd_ne pr.symm]; exact atr3, by rw [upd_ne pO.symm]; exact atO3, ?_⟩
        rw [upd_same, List.range_succ (n := j + 1), List.map_append]
        rfl
      · obtain ⟨y7, rfl, sm3, atr3, atO3, atp3⟩ := hW
        rw [Int.toNat_natCast] at atp3
        have ep : ((List.range (z.length + 1)).map fun k => V.int ((ed ((TL.tl z).take k) ((TL.tl u).take (i + 1)) : Nat) : Int)) = (pfx (TL.tl z) ((TL.tl u).take (i + 1))).map V.int := by
          unfold pfx
          rw [List.map_map]
          rfl
        rw [ep] at atp3
        refine ⟨_, rfl, _, rfl, .inl ⟨rfl, _, SqL.of atO3⟩, _, rfl, _, rfl, p, _, _, _, rfl, rfl, SqL.of atp3, pfx_last, O, _, _, rfl, rfl, atO3, ?_, ?_⟩
        · unfold outF
          rw [List.length_map, List.length_map, List.length_range]
          have il : i < (TL.tl u).length := (List.getElem?_eq_some_iff.mp hc2).1
          exact Nat.lt_of_lt_of_le (by omega : i + 1 < 1000) (by decide)
        refine ⟨p, _, _, _, rfl, same_mut sm3 nO0, by rw [upd_ne pO]; exact atp3, pO, ?_⟩
        rw [upd_same]
        unfold outF
        rw [List.range_succ (n := i + 1), List.map_append, List.map_append]
        rfl
    · obtain ⟨r, y5, y6, y7, rfl, sm, atr, rO, atO⟩ := hW
      refine ⟨_, rfl, q O H' sm nO0 ?_⟩
      rw [eul]
      exact atO
end

end SH
set_option Elab.async false
set_option linter.all false
set_option maxRecDepth 100000
set_option maxHeartbeats 4000000
namespace SH
open PySem PySem.Spec PyProof.Rows L2
section
variable {P : Program} {w : World} {K : PySem.W.Frag} {mg : Str → Option Value} {base : Heap} {ea : Ea}
/-- a word drawn -/
def spWord3 (K : PySem.W.Frag) : Sp := fun vs H Q _ => ∃ (a : Addr) (ns : List Int) (k : Int) (most : Nat), vs = [.ref a, .int k, .int most] ∧ SqL K H a (ns.map V.int) ∧ Dr ns ∧ 0 ≤ k ∧ k < 50000 ∧ most ≤ 40 ∧
  ∀ (z : Str) (H' : Hp), Same H H' → IsLet z → z.length ≤ most → Q (.str z) H'
theorem sc__law_word : FnScope ["draws", "first", "most", "menu", "out", "k"] ["draws", "first", "most"] (defScope s__law_word) := ⟨rfl, rfl, rfl, by decide +kernel, rfl, by decide +kernel, by decide +kernel⟩
theorem ok__law_word (T : Txt K mg ea) (c__law_at : Cl P w K mg base 1 "_law_at" (spDraw K)) : Cl P w K mg base 2 "_law_word" (spWord3 K) := by
  have nd := sc__law_word.nd
  refine cl_of T.d__law_word sc__law_word (fun vs H Q E h => ?_) (fun f cdv A outer s H vs Q E hr h => ?_)
  · obtain ⟨a, ns, k, most, rfl, _⟩ := h
    rfl
  · obtain ⟨a, ns, k, most, rfl, hS, hD, h0, h1, hm, q⟩ := h
    refine ⟨_, (pss_cons (ps_set (i := 3) nd rfl (.inl rfl) (pe_ix (ixl (K := K)) (pe_lst (pa_cons pe_str (pa_cons pe_str (pa_cons pe_str (pa_cons pe_str pa_nil))))) (C8.pe_c c__law_at hr (by decide) (by rfl) (pa_cons (pv 0) (pa_cons (pe_op op_add (pv 1) pe_int) (pa_cons pe_int pa_nil)))) (fun _ _ => rfl)))
      (pss_cons (ps_set (i := 4) nd rfl (.inl rfl) pe_str)
      (pss_cons (ps_for PassesOwn.never rfl (pi_range1 rfl T.b_range (pa_cons (C8.pe_c c__law_at hr (by decide) (by rfl) (pa_cons (pv 0) (pa_cons (pv 1) (pa_cons (pe_op op_add (pv 2) pe_int) pa_nil)))) pa_nil)) (pg_name (i := 5) nd rfl (.inl rfl))
        (pss_one (ps_set (i := 4) nd rfl (.inl rfl) (pe_op op_add_str (pv 4) (pe_ix ix_str (pv 3) (pe_op op_mod (pe_callTy call_int1 (by rfl) T.b_int (by decide +kernel) (pa_cons (pe_op op_fdiv (C8.pe_c c__law_at hr (by decide) (by rfl) (pa_cons (pv 0) (pa_cons (pe_op op_add (pe_op op_add (pv 1) pe_int) (pe_op op_mod (pe_callTy call_int1 (by rfl) T.b_int (by decide +kernel) (pa_cons (pv 5) pa_nil)) pe_int)) (pa_cons pe_int pa_nil)))) (pe_op op_add pe_int (pe_op op_fdiv (pv 5) pe_int))) pa_nil)) (pe_callB call_len_str (by rfl) T.b_len PySem.boot_len (pa_cons (pv 3) pa_nil))) (fun _ _ => rfl))))))
      (pss_one (ps_ret (pv 4)))))), ?_⟩
    refine ⟨(by show 4 ≤ sizeLine; decide), fun l nl => ?_⟩
    have s1 : Same H (upd H l (.lst ([("ab" : Str), "abc", "a", "ab ~"].map V.str))) := same_new nl
    repeat (first | refine ⟨_, rfl, ?_⟩ | refine ⟨rfl, ?_⟩ | refine ⟨_, _, rfl, rfl, ?_⟩ | refine ⟨_, _, _, rfl, rfl, ?_⟩)
    refine ⟨a, ns, _, 4, rfl, s1.seq hS, hD, by omega, by omega, by omega, fun word w0 w1 => ?_⟩
    obtain ⟨x, hx, hxm⟩ := at_map V.str (xs := [("ab" : Str), "abc", "a", "ab ~"]) (i := word) w0 w1
    have hx1 : IsLet x ∧ 1 ≤ x.length ∧ x.length ≤ 4 := by
      simp only [List.mem_cons, List.not_mem_nil, or_false] at hxm
      rcases hxm with e | e | e | e <;> subst e <;> exact ⟨by decide, by decide, by decide⟩
    refine ⟨l, _, word, .str x, rfl, rfl, .inl (.inl upd_same), hx, ?_⟩
    repeat (first | refine ⟨_, rfl, ?_⟩ | refine ⟨rfl, ?_⟩ | refine ⟨_, _, rfl, rfl, ?_⟩ | refine ⟨_, _, _, rfl, rfl, ?_⟩)
    refine ⟨a, ns, k, (most : Int) + 1, rfl, s1.seq hS, hD, by omega, by omega, by omega, fun r r0 r1 => ?_⟩
    refine ⟨r, rfl, by omega, by omega, ?_⟩
    have s2 : Same H (upd H l (.lst [.str "ab", .str "abc", .str "a", .str "ab ~"])) := s1
    generalize upd H l (.lst [.str "ab", .str "abc", .str "a", .str "ab ~"]) = H1 at s2 ⊢
    refine for_range (lo := 0) (n := r.toNat) (fun i σ H' => H' = H1 ∧ ∃ (z : Str) (y5 : Option V), σ = [some (.ref a), some (.int k), some (.int most), some (.str x), some (.str z), y5] ∧ IsLet z ∧ z.length ≤ i)
      ⟨rfl, "", none, rfl, by decide, Nat.zero_le _⟩ (fun i σ H' hi hW => ?_) (fun σ H' hW => ?_)
    · obtain ⟨rfl, z, y5, rfl, zl, zn⟩ := hW
      repeat (first | refine ⟨_, rfl, ?_⟩ | refine ⟨rfl, ?_⟩ | refine ⟨_, _, rfl, rfl, ?_⟩ | refine ⟨_, _, _, rfl, rfl, ?_⟩)
      refine .inl ⟨_, rfl, _, _, rfl, rfl, (by show (0 : Int) < 9; decide), ?_⟩
      repeat (first | refine ⟨_, rfl, ?_⟩ | refine ⟨rfl, ?_⟩ | refine ⟨_, _, rfl, rfl, ?_⟩ | refine ⟨_, _, _, rfl, rfl, ?_⟩)
      refine ⟨a, ns, _, 60000, rfl, s2.seq hS, hD, by omega, by omega, by omega, fun g g0 g1 => ?_⟩
      repeat (first | refine ⟨_, rfl, ?_⟩ | refine ⟨rfl, ?_⟩ | refine ⟨_, _, rfl, rfl, ?_⟩ | refine ⟨_, _, _, rfl, rfl, ?_⟩)
      refine ⟨⟨by decide, by decide⟩, ?_⟩
      repeat (first | refine ⟨_, rfl, ?_⟩ | refine ⟨rfl, ?_⟩ | refine ⟨_, _, rfl, rfl, ?_⟩ | refine ⟨_, _, _, rfl, rfl, ?_⟩)
      refine ⟨by unfold CDiv; omega, .inl ⟨_, rfl, _, rfl, x, rfl, Nat.le_trans hx1.2.2 (by decide), _, _, rfl, rfl, (by show (0 : Int) < (x.length : Int); omega), ?_⟩⟩
      refine ixs_let hx1.1 (Nat.le_trans hx1.2.2 (by decide)) (Int.emod_nonneg _ (by omega)) (by show _ % (x.length : Int) < (x.length : Int); exact Int.emod_lt_of_pos _ (by omega)) fun c hc => ?_
      have e1 : (⟨#[c]⟩ : Str).length = 1 := rfl
      refine ⟨z, ⟨#[c]⟩, rfl, rfl, Nat.le_trans (by rw [e1]; omega : _ ≤ 1000) (by decide), rfl, z ++ ⟨#[c]⟩, _, rfl, let_app zl (let_one hc), ?_⟩
      rw [len_app, e1]
      omega
    · obtain ⟨rfl, z, y5, rfl, zl, zn⟩ := hW
      exact ⟨_, rfl, q z _ s2 zl (by omega)⟩
/-- a word near to one -/
def spNear (K : PySem.W.Frag) : Sp := fun vs H Q _ => ∃ (a : Addr) (ns : List Int) (k : Int) (x : Str), vs = [.ref a, .int k, .str x] ∧ SqL K H a (ns.map V.int) ∧ Dr ns ∧ 0 ≤ k ∧ k < 50000 ∧ IsLet x ∧ x.length ≤ 100 ∧
  ∀ (z : Str) (H' : Hp), Same H H' → IsLet z → z.length ≤ x.length + 3 → Q (.str z) H'
theorem sc__law_near : FnScope ["draws", "first", "word", "turn", "place", "cell", "letter"] ["draws", "first", "word"] (defScope s__law_near) := ⟨rfl, rfl, rfl, by decide +kernel, rfl, by decide +kernel, by decide +kernel⟩
theorem ok__law_near (T : Txt K mg ea) (c__law_at : Cl P w K mg base 1 "_law_at" (spDraw K)) : Cl P w K mg base 2 "_law_near" (spNear K) := by
  have nd := sc__law_near.nd
  refine cl_of T.d__law_near sc__law_near (fun vs H Q E h => ?_) (fun f cdv A outer s H vs Q E hr h => ?_)
  · obtain ⟨a, ns, k, x, rfl, _⟩ := h
    rfl
  · obtain ⟨a, ns, k, x, rfl, hS, hD, h0, h1, xl, xn, q⟩ := h
    refine ⟨_, (pss_cons (ps_for PassesOwn.never rfl (pi_range1 rfl T.b_range (pa_cons (C8.pe_c c__law_at hr (by decide) (by rfl) (pa_cons (pv 0) (pa_cons (pv 1) (pa_cons pe_int pa_nil)))) pa_nil)) (pg_name (i := 3) nd rfl (.inl rfl))
        (pss_cons (ps_set (i := 4) nd rfl (.inl rfl) (C8.pe_c c__law_at hr (by decide) (by rfl) (pa_cons (pv 0) (pa_cons (pe_op op_add (pe_op op_add (pv 1) pe_int) (pe_op op_mul pe_int (pv 3))) (pa_cons (pe_op op_add (pe_callB call_len_str (by rfl) T.b_len PySem.boot_len (pa_cons (pv 2) pa_nil)) pe_int) pa_nil)))))
          (pss_cons (ps_set (i := 5) nd rfl (.inl rfl) (C8.pe_c c__law_at hr (by decide) (by rfl) (pa_cons (pv 0) (pa_cons (pe_op op_add (pe_op op_add (pv 1) pe_int) (pe_op op_mul pe_int (pv 3))) (pa_cons pe_int pa_nil)))))
          (pss_cons (ps_set (i := 6) nd rfl (.inl rfl) (pe_ix ix_str pe_str (pe_op op_mod (pe_callTy call_int1 (by rfl) T.b_int (by decide +kernel) (pa_cons (pe_op op_fdiv (pv 5) pe_int) pa_nil)) pe_int) (fun _ _ => rfl)))
          (pss_one (ps_if (pt_cmpR op_eq (pe_op op_mod (pe_callTy call_int1 (by rfl) T.b_int (by decide +kernel) (pa_cons (pv 5) pa_nil)) pe_int) pe_int (nomark _))
            (pss_one (ps_set (i := 2) nd rfl (.inl rfl) (pe_op op_add_str (pe_op op_add_str (pe_slice sl_str (pv 2) po_none (po_some (pv 4))) (pv 6)) (pe_slice sl_str (pv 2) (po_some (pv 4)) po_none))))
            (pss_one (ps_if (pt_cmpR op_eq (pe_op op_mod (pe_callTy call_int1 (by rfl) T.b_int (by decide +kernel) (pa_cons (pv 5) pa_nil)) pe_int) pe_int (nomark _))
                (pss_one (ps_set (i := 2) nd rfl (.inl rfl) (pe_op op_add_str (pe_slice sl_str (pv 2) po_none (po_some (pv 4))) (pe_slice sl_str (pv 2) (po_some (pe_op op_add (pv 4) pe_int)) po_none))))
                (pss_one (ps_set (i := 2) nd rfl (.inl rfl) (pe_op op_add_str (pe_op op_add_str (pe_slice sl_str (pv 2) po_none (po_some (pv 4))) (pv 6)) (pe_slice sl_str (pv 2) (po_some (pe_op op_add (pv 4) pe_int)) po_none))))))))))))
      (pss_one (ps_ret (pv 2)))), ?_⟩
    refine ⟨_, rfl, _, rfl, a, ns, k, 4, rfl, hS, hD, h0, by omega, by omega, fun r r0 r1 => ?_⟩
    refine ⟨r, rfl, by omega, by omega, ?_⟩
    refine for_range (lo := 0) (n := r.toNat) (fun i σ H' => H' = H ∧ ∃ (z : Str) (y3 y4 y5 y6 : Option V), σ = [some (.ref a), some (.int k), some (.str z), y3, y4, y5, y6] ∧ IsLet z ∧ z.length ≤ x.length + i)
      ⟨rfl, x, none, none, none, none, rfl, xl, Nat.le_refl _⟩ (fun i σ H' hi hW => ?_) (fun σ H' hW => ?_)
    · obtain ⟨rfl, z, y3, y4, y5, y6, rfl, zl, zn⟩ := hW
      have zs : z.length ≤ sizeLine := Nat.le_trans (by omega : z.length ≤ 1000) (by decide)
      repeat (first | refine ⟨_, rfl, ?_⟩ | refine ⟨rfl, ?_⟩ | refine ⟨_, _, rfl, rfl, ?_⟩ | refine ⟨_, _, _, rfl, rfl, ?_⟩)
      refine ⟨.inl (by decide), ?_⟩
      repeat (first | refine ⟨_, rfl, ?_⟩ | refine ⟨rfl, ?_⟩ | refine ⟨_, _, rfl, rfl, ?_⟩ | refine ⟨_, _, _, rfl, rfl, ?_⟩)
      refine ⟨zs, ?_⟩
      repeat (first | refine ⟨_, rfl, ?_⟩ | refine ⟨rfl, ?_⟩ | refine ⟨_, _, rfl, rfl, ?_⟩ | refine ⟨_, _, _, rfl, rfl, ?_⟩)
      refine ⟨a, ns, _, (z.length : Int) + 1, rfl, hS, hD, by omega, by omega, by omega, fun p p0 p1 => ?_⟩
      repeat (first | refine ⟨_, rfl, ?_⟩ | refine ⟨rfl, ?_⟩ | refine ⟨_, _, rfl, rfl, ?_⟩ | refine ⟨_, _, _, rfl, rfl, ?_⟩)
      refine ⟨.inl (by decide), ?_⟩
      repeat (first | refine ⟨_, rfl, ?_⟩ | refine ⟨rfl, ?_⟩ | refine ⟨_, _, rfl, rfl, ?_⟩ | refine ⟨_, _, _, rfl, rfl, ?_⟩)
      refine ⟨a, ns, _, 60000, rfl, hS, hD, by omega, by omega, by omega, fun g g0 g1 => ?_⟩
      obtain ⟨p, rfl⟩ : ∃ n : Nat, p = n := ⟨p.toNat, by omega⟩
      repeat (first | refine ⟨_, rfl, ?_⟩ | refine ⟨rfl, ?_⟩ | refine ⟨_, _, rfl, rfl, ?_⟩ | refine ⟨_, _, _, rfl, rfl, ?_⟩)
      refine ⟨by constructor <;> decide, .inl ⟨_, rfl, _, _, rfl, rfl, (by show (0 : Int) < 4; decide), ?_⟩⟩
      refine ixs_let (z := "abc~") (by decide) (by decide) (Int.emod_nonneg _ (by decide)) (by show _ % 4 < (4 : Int); exact Int.emod_lt_of_pos _ (by decide)) fun c hc => ?_
      have e1 : (⟨#[c]⟩ : Str).length = 1 := rfl
      have c1 : IsLet (cutS z none (some (p : Int))) := cut_let zl _ _
      have c2 : IsLet (cutS z (some (p : Int)) none) := cut_let zl _ _
      have c3 : IsLet (cutS z (some ((p : Int) + 1)) none) := cut_let zl _ _
      have l1 : (cutS z none (some (p : Int))).length = p := by
        have := congrArg List.length (cuts_take z p)
        rw [List.length_take] at this
        have h1 : (TL.tl (cutS z none (some (p : Int)))).length = (cutS z none (some (p : Int))).length := rfl
        have h2 : (TL.tl z).length = z.length := rfl
        omega
      have l2 : (cutS z (some (p : Int)) none).length = z.length - p := suf_len z p
      have l3 : (cutS z (some ((p : Int) + 1)) none).length = z.length - (p + 1) := by
        rw [show ((p : Int) + 1) = ((p + 1 : Nat) : Int) by omega]
        exact suf_len z (p + 1)
      have fin : ∀ (w : Str) (a1 a2 a3 a4 : Option V), IsLet w → w.length ≤ x.length + (i + 1) → H' = H' ∧ ∃ (z : Str) (y3 y4 y5 y6 : Option V), [some (V.ref a), some (.int k), some (.str w), a1, a2, a3, a4] = [some (.ref a), some (.int k), some (.str z), y3, y4, y5, y6] ∧ IsLet z ∧ z.length ≤ x.length + (i + 1) := fun w _ _ _ _ h1 h2 => ⟨rfl, w, _, _, _, _, rfl, h1, h2⟩
      have big : ∀ n : Nat, n ≤ 1000 → n ≤ sizeLine := fun n h => Nat.le_trans h (by decide)
      refine ⟨_, rfl, .inl ⟨_, rfl, _, _, rfl, rfl, (by show (0 : Int) < 3; decide), rfl, _, rfl, ite2 (fun e => ?_) (fun e => ?_)⟩⟩
      · refine ⟨_, rfl, _, rfl, p, rfl, z, rfl, zs, _, rfl, _, _, rfl, rfl, big _ (by rw [l1, e1]; omega), _, rfl, _, rfl, p, rfl, z, rfl, zs, _, _, rfl, rfl, big _ (by rw [len_app, l1, l2, e1]; omega), ?_⟩
        exact fin _ _ _ _ _ (let_app (let_app c1 (let_one hc)) c2) (by rw [len_app, len_app, l1, l2, e1]; omega)
      · refine ⟨_, rfl, .inl ⟨_, rfl, _, _, rfl, rfl, (by show (0 : Int) < 3; decide), rfl, _, rfl, ite2 (fun e => ?_) (fun e => ?_)⟩⟩
        · refine ⟨_, rfl, _, rfl, p, rfl, z, rfl, zs, _, rfl, _, rfl, _, _, rfl, rfl, _, rfl, z, rfl, zs, _, _, rfl, rfl, big _ (by rw [l1, l3]; omega), ?_⟩
          exact fin _ _ _ _ _ (let_app c1 c3) (by rw [len_app, l1, l3]; omega)
        · refine ⟨_, rfl, _, rfl, p, rfl, z, rfl, zs, _, rfl, _, _, rfl, rfl, big _ (by rw [l1, e1]; omega), _, rfl, _, rfl, _, _, rfl, rfl, _, rfl, z, rfl, zs, _, _, rfl, rfl, big _ (by rw [len_app, l1, l3, e1]; omega), ?_⟩
          exact fin _ _ _ _ _ (let_app (let_app c1 (let_one hc)) c3) (by rw [len_app, len_app, l1, l3, e1]; omega)
    · obtain ⟨rfl, z, y3, y4, y5, y6, rfl, zl, zn⟩ := hW
      exact ⟨_, rfl, q z _ (Same.refl _) zl (by omega)⟩
end

end SH
set_option Elab.async false
set_option linter.all false
set_option maxRecDepth 100000
set_option maxHeartbeats 4000000
namespace SH
open PySem PySem.Spec PyProof.Rows L2
section
variable {P : Program} {w : World} {K : PySem.W.Frag} {mg : Str → Option Value} {base : Heap} {ea : Ea}
def spGreat35 (K : PySem.W.Frag) : Sp := fun vs H Q _ => ∃ (a : Addr) (ns : List Int), vs = [.ref a] ∧ SqL K H a (ns.map V.int) ∧ Dr ns ∧ ∀ H', Same H H' → Q (.bl true) H'
theorem dR4_eq (l : List Q4) : SeqAt.shaped (dR4 l) = true ∧ PyData.eqv (dR4 l) (dR4 l) = true := okd_sh (okd_r4 l)
theorem sc__law_great : FnScope ["draws", "text", "k", "start", "word", "rows", "first", "found", "size"] ["draws"] (defScope s__law_great) := ⟨rfl, rfl, rfl, by decide +kernel, rfl, by decide +kernel, by decide +kernel⟩
theorem ok__law_great (T : Txt K mg ea) (c__law_at : Cl P w K mg base 1 "_law_at" (spDraw K)) (c__law_near : Cl P w K mg base 2 "_law_near" (spNear K)) (c__law_from : Cl P w K mg base 1 "_law_from" (spFrom35 K)) (c_near_places : ClX P w K mg base 4 "near_places" (spNearP K ea)) : Cl P w K mg base 5 "_law_great" (spGreat35 K) := by
  have nd := sc__law_great.nd
  refine cl_of T.d__law_great sc__law_great (fun vs H Q E h => ?_) (fun f cdv A outer s H vs Q E hr h => ?_)
  · obtain ⟨a, ns, rfl, _⟩ := h
    rfl
  · obtain ⟨a, ns, rfl, hS, hD, q⟩ := h
    refine ⟨_, (pss_cons (ps_set (i := 1) nd rfl (.inl rfl) pe_str)
      (pss_cons (ps_for PassesOwn.never rfl (pi_range1 rfl T.b_range (pa_cons pe_int pa_nil)) (pg_name (i := 2) nd rfl (.inl rfl))
        (pss_one (ps_set (i := 1) nd rfl (.inl rfl) (pe_op op_add_str (pv 1) (pe_ix ix_str pe_str (pe_op op_mod (pe_callTy call_int1 (by rfl) T.b_int (by decide +kernel) (pa_cons (pe_op op_fdiv (C8.pe_c c__law_at hr (by decide) (by rfl) (pa_cons (pv 0) (pa_cons (pe_op op_add pe_int (pe_op op_mod (pe_callTy call_int1 (by rfl) T.b_int (by decide +kernel) (pa_cons (pv 2) pa_nil)) pe_int)) (pa_cons pe_int pa_nil)))) (pe_op op_add pe_int (pe_op op_fdiv (pv 2) pe_int))) pa_nil)) pe_int) (fun _ _ => rfl))))))
      (pss_cons (ps_set (i := 3) nd rfl (.inl rfl) (C8.pe_c c__law_at hr (by decide) (by rfl) (pa_cons (pv 0) (pa_cons pe_int (pa_cons pe_int pa_nil)))))
      (pss_cons (ps_set (i := 4) nd rfl (.inl rfl) (C8.pe_c c__law_near hr (by decide) (by rfl) (pa_cons (pv 0) (pa_cons pe_int (pa_cons (pe_slice sl_str (pv 1) (po_some (pv 3)) (po_some (pe_op op_add (pv 3) pe_int))) pa_nil)))))
      (pss_cons (ps_set (i := 5) nd rfl (.inl rfl) (pe_lst pa_nil))
      (pss_cons (ps_for PassesOwn.never rfl (pi_range1 rfl T.b_range (pa_cons pe_int pa_nil)) (pg_name (i := 6) nd rfl (.inr rfl))
        (pss_cons (ps_set (i := 7) nd rfl (.inr rfl) (C8.pe_c c__law_from hr (by decide) (by rfl) (pa_cons (pv 4) (pa_cons (pv 1) (pa_cons (pv 6) pa_nil)))))
          (pss_one (ps_set (i := 5) nd rfl (.inl rfl) (pe_op op_cat (pv 5) (pe_lc (own := [("size", 8)]) (g := (gName 8)) rfl nd (pi_range1 rfl T.b_range (pa_cons (pe_callB call_len_seq (by rfl) T.b_len PySem.boot_len (pa_cons (pv 7) pa_nil)) pa_nil)) (blkOk_by (own := [("size", 8)]) (N := ["draws", "text", "k", "start", "word", "rows", "first", "found", "size"]) (sc := defScope s__law_great) (by decide +kernel)) (fun _ _ _ _ _ => (pg_name (i := 8) nd rfl (.inl rfl))) (fun _ _ _ _ _ => pts_one (pt_cmpR op_le (pe_ix (ixl (K := K)) (pv 7) (pv 8) (fun _ _ => rfl)) pe_int (nomark _))) (fun _ _ _ _ _ => (pe_tup (pa_cons pe_int (pa_cons (pv 6) (pa_cons (pe_op op_add (pv 6) (pv 8)) (pa_cons (pe_ix (ixl (K := K)) (pv 7) (pv 8) (fun _ _ => rfl)) pa_nil))))))))))))
      (pss_one (ps_ret (pe_cmpR (op_eqDK (K := K) hr.units) (pe_cx c_near_places hr (by decide) (fun σ => passAt takes0 σ) (by rfl) (pa_cons (pe_lst (pa_cons (pe_tup (pa_cons pe_int (pa_cons (pv 1) pa_nil))) pa_nil)) (pa_cons (pv 4) (pa_cons pe_int pa_nil)))) (pv 5) (nomark _)))))))))), ?_⟩
    have sz4 : 4 ≤ sizeLine := by decide
    have abc : IsLet ("abc" : Str) := by decide
    refine ⟨40, rfl, by decide, by decide, ?_⟩
    refine for_range (lo := 0) (n := 40) (fun i σ H' => H' = H ∧ ∃ (z : Str) (y2 y3 y4 y5 y6 y7 y8 : Option V), σ = [some (.ref a), some (.str z), y2, y3, y4, y5, y6, y7, y8] ∧ IsLet z ∧ z.length = i)
      ⟨rfl, "", _, _, _, _, _, _, _, rfl, by decide, rfl⟩ (fun i σ H' hi hW => ?_) (fun σ H' hW => ?_)
    · obtain ⟨rfl, z, y2, y3, y4, y5, y6, y7, y8, rfl, zl, zn⟩ := hW
      repeat (first | refine ⟨_, rfl, ?_⟩ | refine ⟨rfl, ?_⟩ | refine ⟨_, _, rfl, rfl, ?_⟩ | refine ⟨_, _, _, rfl, rfl, ?_⟩)
      refine .inl ⟨_, rfl, _, _, rfl, rfl, (by show (0 : Int) < 12; decide), ?_⟩
      repeat (first | refine ⟨_, rfl, ?_⟩ | refine ⟨rfl, ?_⟩ | refine ⟨_, _, rfl, rfl, ?_⟩ | refine ⟨_, _, _, rfl, rfl, ?_⟩)
      refine ⟨a, ns, _, 60000, rfl, hS, hD, by omega, by omega, by omega, fun g g0 g1 => ?_⟩
      repeat (first | refine ⟨_, rfl, ?_⟩ | refine ⟨rfl, ?_⟩ | refine ⟨_, _, rfl, rfl, ?_⟩ | refine ⟨_, _, _, rfl, rfl, ?_⟩)
      refine ⟨⟨by decide, by decide⟩, ?_⟩
      repeat (first | refine ⟨_, rfl, ?_⟩ | refine ⟨rfl, ?_⟩ | refine ⟨_, _, rfl, rfl, ?_⟩ | refine ⟨_, _, _, rfl, rfl, ?_⟩)
      refine ⟨by unfold CDiv; omega, .inl ⟨_, rfl, _, _, rfl, rfl, (by show (0 : Int) < 3; decide), ?_⟩⟩
      refine ixs_let abc (by decide) (Int.emod_nonneg _ (by omega)) (by show _ % 3 < (3 : Int); exact Int.emod_lt_of_pos _ (by omega)) fun c hc => ?_
      have e1 : (⟨#[c]⟩ : Str).length = 1 := rfl
      refine ⟨z, ⟨#[c]⟩, rfl, rfl, Nat.le_trans (by rw [e1]; omega : _ ≤ 1000) (by decide), rfl, z ++ ⟨#[c]⟩, _, _, _, _, _, _, _, rfl, let_app zl (let_one hc), by rw [len_app, e1]; omega⟩
    obtain ⟨rfl, z, y2, y3, y4, y5, y6, y7, y8, rfl, zl, zn⟩ := hW
    have zs : z.length ≤ sizeLine := Nat.le_trans (by omega : z.length ≤ 1000) (by decide)
    refine ⟨_, rfl, a, ns, 58, 20, rfl, hS, hD, by omega, by omega, by omega, fun s s0 s1 => ?_⟩
    refine ⟨_, rfl, _, rfl, _, rfl, s, rfl, _, rfl, _, _, rfl, rfl, s + 20, rfl, z, rfl, zs, ?_⟩
    have cl := cutS_length z (some s) (some (s + 20))
    refine ⟨a, ns, 47, cutS z (some s) (some (s + 20)), rfl, hS, hD, by omega, by omega, cut_let zl _ _, by omega, fun wd H1 sm1 hw wl => ?_⟩
    refine ⟨Nat.zero_le _, fun R0 nR0 => ?_⟩
    have s2 := sm1.trans (same_new (o := .lst []) nR0)
    have at2 : (upd H1 R0 (.lst [])) R0 = some (.lst []) := upd_same
    generalize upd H1 R0 (.lst []) = H2 at s2 at2 ⊢
    have ez : (TL.tl z).length = 40 := zn
    have big : ∀ i, i ≤ 41 → ((List.range i).flatMap (rowsI wd (7, z))).length ≤ 1681 := fun i hi => by
      have := sum_le (f := rowsI wd (7, z)) (m := 41) (l := List.range i) fun i _ => by unfold rowsI; rw [List.length_map, List.length_range]; show z.length + 1 - i ≤ 41; omega
      rw [List.length_range] at this
      have : i * 41 ≤ 41 * 41 := Nat.mul_le_mul_right _ hi
      omega
    refine ⟨41, rfl, by decide, by decide, ?_⟩
    refine for_range (lo := 0) (n := 41) (fun i σ H' => ∃ (Rp : Addr) (R : RT) (y6 y7 y8 : Option V), σ = [some (.ref a), some (.str z), y2, some (.int s), some (.str wd), some (.ref Rp), y6, y7, y8] ∧ Same H' H' ∧ Same H2 H' ∧ H' Rp = some (.lst (refs4 R)) ∧ T4At K H' R ∧ R.map (·.2) = ((List.range i).flatMap (rowsI wd (7, z))).filter fun q => decide (q.2.2.2 ≤ 3))
      ⟨R0, [], _, _, _, rfl, Same.refl _, Same.refl _, at2, (fun r m => nomatch m), rfl⟩ (fun i σ H3 hi hW => ?_) (fun σ H3 hW => ?_)
    · obtain ⟨Rp, R, y6, y7, y8, rfl, _, s3, atR, hR, eR⟩ := hW
      have e0 : (0 : Int) + (i : Int) = (i : Int) := Int.zero_add _
      simp only [e0]
      refine ⟨_, rfl, _, rfl, _, rfl, wd, z, i, rfl, by omega, by omega, fun fl H4 s4 nfl atf => ?_⟩
      have dl : ((TL.tl z).drop i).length = 40 - i := by rw [List.length_drop, ez]
      rw [dl] at atf
      have fll : ((outF (TL.tl wd) ((TL.tl z).drop i) (40 - i + 1)).map V.int).length = 40 - i + 1 := by unfold outF; rw [List.length_map, List.length_map, List.length_range]
      refine ⟨_, rfl, _, rfl, fl, _, rfl, .inl (SqL.of atf), _, rfl, by rw [fll]; omega, by rw [fll]; omega, fun D nD => ?_⟩
      rw [fll, Int.toNat_natCast]
      refine lc_w (walk_range (lo := 0) (n := 40 - i + 1)) nD (by omega) (fun _ _ => trivial) (fun j acc H' => ∃ S : RT, acc = refs4 S ∧ S.length ≤ j ∧ T4At K H' S ∧ S.map (·.2) = ((List.range j).map fun k => row4 wd (7, z) i (i + k)).filter fun q => decide (q.2.2.2 ≤ 3)) (fun _ _ => ⟨[], rfl, Nat.le_refl _, (fun r m => nomatch m), rfl⟩) (fun j acc Ha Hb l' hD' bt ⟨S, e1, e2, e3, e4⟩ => ⟨S, e1, e2, e3.but hD' bt, e4⟩) (fun i H x H' y => by rw [y.1]; exact Same.refl _) (fun j v acc Ha Hb Qn Qf hj sm y rr at_ kn kf => ?_) (fun acc H5 s5 at5 _ rr => ?_)
      · obtain ⟨rfl, rfl⟩ := y
        obtain ⟨S, rfl, sl, hS4, eS⟩ := rr
        have e0 : (0 : Int) + (j : Int) = (j : Int) := Int.zero_add _
        simp only [e0]
        have atf2 := sm _ _ atf
        have fj : atI ((outF (TL.tl wd) ((TL.tl z).drop i) (40 - i + 1)).map V.int) (j : Int) = some (.int ((ed (TL.tl wd) (((TL.tl z).drop i).take j) : Nat) : Int)) := atI_nat (by unfold outF; rw [List.getElem?_map, List.getElem?_map, List.getElem?_range hj]; rfl)
        have ecut : cutW (TL.tl z) i (i + j) = ((TL.tl z).drop i).take j := by
          unfold cutW
          rw [List.drop_take, Nat.add_sub_cancel_left]
        have erow : row4 wd (7, z) i (i + j) = (7, (i : Int), (i : Int) + (j : Int), ((ed (TL.tl wd) (((TL.tl z).drop i).take j) : Nat) : Int)) := by
          unfold row4
          rw [ecut]
          congr 3
        refine ⟨rfl, _, rfl, _, rfl, fl, _, _, _, rfl, rfl, SqL.of atf2, fj, _, _, rfl, rfl, _, rfl, ?_⟩
        by_cases h : ((ed (TL.tl wd) (((TL.tl z).drop i).take j) : Nat) : Int) ≤ 3
        · rw [decide_eq_true h]
          refine iteT ⟨_, rfl, _, rfl, _, rfl, _, _, rfl, rfl, _, rfl, _, rfl, fl, _, _, _, rfl, rfl, SqL.of atf2, fj, sz4, fun u nu => ?_⟩
          have su := same_new (o := .tup [.int 7, .int (i : Int), .int ((i : Int) + (j : Int)), .int ((ed (TL.tl wd) (((TL.tl z).drop i).take j) : Nat) : Int)]) nu
          refine kn _ _ su ⟨S ++ [(u, row4 wd (7, z) i (i + j))], by rw [refs4_app]; rfl, by rw [List.length_append]; show S.length + 1 ≤ _; omega, fun x m => ?_, ?_⟩
          · rcases List.mem_append.mp m with m | m
            · exact same_tup su (hS4 x m)
            · rw [List.mem_singleton.mp m]
              refine SqT.of ?_
              show _ = some (HO.tup (v4 (row4 wd (7, z) i (i + j))))
              rw [upd_same, erow]
              rfl
          · rw [List.map_append, eS, List.range_succ, List.map_append, List.filter_append]
            congr 1
            show [row4 wd (7, z) i (i + j)] = [row4 wd (7, z) i (i + j)].filter _
            rw [List.filter_cons_of_pos (by rw [erow]; exact decide_eq_true h)]
            rfl
        · rw [decide_eq_false h]
          refine iteF (kf _ (Same.refl _) ⟨S, rfl, by omega, hS4, ?_⟩)
          rw [eS, List.range_succ, List.map_append, List.filter_append]
          show _ = _ ++ [row4 wd (7, z) i (i + j)].filter _
          rw [List.filter_cons_of_neg (by rw [erow]; show ¬ decide _ = true; rw [decide_eq_true_eq]; exact h), List.filter_nil, List.append_nil]
      · obtain ⟨S, rfl, sl, hS4, eS⟩ := rr
        have atR5 := s5 _ _ (s4 _ _ atR)
        have lnR := congrArg List.length eR
        rw [List.length_map] at lnR
        have := List.length_filter_le (fun q : Q4 => decide (q.2.2.2 ≤ 3)) ((List.range i).flatMap (rowsI wd (7, z)))
        have := big i (by omega)
        refine ⟨Rp, D, _, _, rfl, rfl, atR5, at5, ?_, fun p np => ?_⟩
        · rw [refs4_len, refs4_len]
          exact Nat.le_trans (by omega : R.length + S.length ≤ 10000) (by decide)
        have sp := same_new (o := .lst (refs4 R ++ refs4 S)) np
        refine ⟨p, R ++ S, _, _, _, rfl, Same.refl _, s3.trans (s4.trans (s5.trans sp)), by rw [upd_same, refs4_app], fun x m => ?_, ?_⟩
        · rcases List.mem_append.mp m with m | m
          · exact same_tup (s4.trans (s5.trans sp)) (hR x m)
          · exact same_tup sp (hS4 x m)
        · rw [List.map_append, eR, eS, flatR_range, List.filter_append]
          congr 2
          unfold rowsI
          rw [show (7, z).2.length + 1 - i = 40 - i + 1 by show z.length + 1 - i = _; omega]
    · obtain ⟨Rp, R, y6, y7, y8, rfl, _, s3, atR, hR, eR⟩ := hW
      refine ⟨_, rfl, (by show 2 ≤ sizeLine; decide), fun t nt => ⟨(by show 1 ≤ sizeLine; decide), fun hl nhl => ?_⟩⟩
      have st := same_new (o := .tup [.int 7, .str z]) nt
      have ht : (upd H3 t (.tup [.int 7, .str z])) t = some (.tup [.int 7, .str z]) := upd_same
      generalize upd H3 t (.tup [.int 7, .str z]) = H4 at st ht nhl ⊢
      have sh := same_new (o := .lst [.ref t]) nhl
      have hh : (upd H4 hl (.lst [.ref t])) hl = some (.lst [.ref t]) := upd_same
      have ht2 := sh _ _ ht
      generalize upd H4 hl (.lst [.ref t]) = H5 at sh hh ht2 ⊢
      have s35 := st.trans sh
      have small3 : Small (3 : Int) := small_of (by omega) (by omega)
      refine ⟨_, rfl, hl, [(t, 7, z)], wd, 3, rfl, ⟨SqL.of hh, fun q m => by rw [List.mem_singleton.mp m]; exact SqT.of ht2⟩, by show 1 ≤ 8; decide, (fun q m => by rw [List.mem_singleton.mp m]; show z.length ≤ 40; omega), List.pairwise_singleton _ _, by omega, small3, fun bad => absurd ⟨by decide, by decide⟩ bad, fun _ _ l R' H6 s6 nl at6 hR' eR' => ?_⟩
      have eA : nearR ([(t, (7 : Int), z)].map (·.2)) wd 3 = ((List.range 41).flatMap (rowsI wd (7, z))).filter fun q => decide (q.2.2.2 ≤ 3) := by
        unfold nearR allR
        show ((rowsQ wd (7, z) ++ []).filter _) = _
        rw [List.append_nil]
        unfold rowsQ
        rw [show (7, z).2.length + 1 = 41 by show z.length + 1 = 41; omega]
      refine ⟨_, rfl, _, _, dp_r4 (SqL.of at6) hR', dp_r4 (SqL.of (s6 _ _ (s35 _ _ atR))) (hR.same (s35.trans s6)), (dR4_eq _).1, (dR4_eq _).1, ?_⟩
      rw [eR', eA, eR, (dR4_eq _).2]
      exact q _ (s2.trans (s3.trans (s35.trans s6)))
end

end SH
set_option Elab.async false
set_option linter.all false
set_option maxRecDepth 100000
set_option maxHeartbeats 4000000
namespace SH
open PySem PySem.Spec PyProof.Rows L2
/-- of several the first one of the least distance -/
def stepQ (b : Option Q4) (q : Q4) : Option Q4 := match b with
  | none => some q
  | some p => if q.2.2.2 < p.2.2.2 then some q else some p
def leastQ (l : List Q4) : Option Q4 := l.foldl stepQ none
theorem leastQ_snoc {l : List Q4} {k : Nat} {q : Q4} (h : l[k]? = some q) : leastQ (l.take (k + 1)) = stepQ (leastQ (l.take k)) q := by
  unfold leastQ
  rw [List.take_add_one, h, List.foldl_append]
  rfl
theorem leastQ_is (l : List Q4) : ∀ k, 0 < k → k ≤ l.length → ∃ (m : Nat) (b : Q4), m < k ∧ l[m]? = some b ∧ leastQ (l.take k) = some b ∧ ∀ (n : Nat) (y : Q4), n < k → l[n]? = some y → b.2.2.2 ≤ y.2.2.2 ∧ (n < m → b.2.2.2 < y.2.2.2)
  | 0, h, _ => absurd h (Nat.lt_irrefl _)
  | k + 1, _, hk => by
    have e : l[k]? = some l[k] := List.getElem?_eq_getElem (by omega)
    rw [leastQ_snoc e]
    generalize l[k] = q at e
    rcases Nat.eq_zero_or_pos k with k0 | k0
    · subst k0
      refine ⟨0, q, by omega, e, rfl, fun n y hn hy => ?_⟩
      obtain rfl : n = 0 := by omega
      rw [e] at hy
      obtain rfl := Option.some.inj hy
      exact ⟨Int.le_refl _, fun z => absurd z (Nat.lt_irrefl _)⟩
    · obtain ⟨m, b, h1, h2, h3, h4⟩ := leastQ_is l k k0 (by omega)
      rw [h3]
      unfold stepQ
      by_cases c : q.2.2.2 < b.2.2.2
      · refine ⟨k, q, by omega, e, if_pos c, fun n y hn hy => ?_⟩
        by_cases en : n = k
        · subst en
          rw [e] at hy
          obtain rfl := Option.some.inj hy
          exact ⟨Int.le_refl _, fun z => absurd z (Nat.lt_irrefl _)⟩
        · have := (h4 n y (by omega) hy).1
          exact ⟨by omega, fun _ => by omega⟩
      · refine ⟨m, b, by omega, h2, if_neg c, fun n y hn hy => ?_⟩
        by_cases en : n = k
        · subst en
          rw [e] at hy
          obtain rfl := Option.some.inj hy
          exact ⟨by omega, fun z => absurd z (by omega)⟩
        · exact h4 n y (by omega) hy
theorem leastQ_of {l : List Q4} {i : Nat} {q : Q4} (h : l[i]? = some q) (hl : ∀ (n : Nat) (y : Q4), l[n]? = some y → q.2.2.2 ≤ y.2.2.2 ∧ (n < i → q.2.2.2 < y.2.2.2)) : leastQ l = some q := by
  have li := (List.getElem?_eq_some_iff.mp h).1
  obtain ⟨m, b, h1, h2, h3, h4⟩ := leastQ_is l l.length (by omega) (Nat.le_refl _)
  rw [List.take_length] at h3
  rw [h3]
  have a1 := h4 i q li h
  have a2 := hl m b h2
  have : m = i := by
    rcases Nat.lt_trichotomy m i with c | c | c
    · have := a2.2 c
      omega
    · exact c
    · have := a1.2 c
      omega
  rw [this, h] at h2
  exact h2.symm
open LamX in
abbrev TbP (PT : Addr) : List (Addr × Str) := [(PT, ("nearest.<locals>." : Str) ++ ("<lambda>" : Str))]
section
variable {P : Program} {w : World} {K : PySem.W.Frag} {mg : Str → Option Value} {base : Heap} {ea : Ea}
/-- a told place, or None -/
def BestAt (K : PySem.W.Frag) (H : Hp) (v : V) : Option Q4 → Prop
  | none => v = .non
  | some q => ∃ t, v = .ref t ∧ SqT K H t (v4 q)
def dB : Option Q4 → PyData
  | none => .none
  | some q => d4 q
theorem BestAt.dp {H : Hp} {v : V} : ∀ {o : Option Q4}, BestAt K H v o → Dp K H v (dB o)
  | none, h => by
    have h : v = .non := h
    rw [h]
    exact .non
  | some q, h => by
    obtain ⟨t, rfl, ht⟩ := h
    exact dp_4 ht
theorem BestAt.ext {H H' : Hp} {v : V} (e : LamX.ExtN H H') : ∀ {o : Option Q4}, BestAt K H v o → BestAt K H' v o
  | none, h => h
  | some q, h => by
    obtain ⟨t, rfl, ht⟩ := h
    exact ⟨t, rfl, KeyL.sqT_ext ht e⟩
theorem okd_B : ∀ o : Option Q4, Okd (dB o)
  | none => okd_non
  | some q => okd_4 q
def spNst (K : PySem.W.Frag) (PT : Addr) : Sp := fun vs H Q _ => ∃ (a : Addr) (L : PL) (z : Str), vs = [.ref a, .str z] ∧ HsAt K H a L ∧ L.length ≤ 8 ∧ (∀ q ∈ L, q.2.2.length ≤ 40) ∧ ((L.map (·.2)).map (·.1)).Pairwise (· < ·) ∧ z.length ≤ 100 ∧ LamX.Tabs (TbP PT) H ∧
  ∀ (H' : Hp) (v : V), LamX.ExtN H H' → BestAt K H' v (leastQ (allR (L.map (·.2)) z)) → Q v H'
theorem sc_nearest : FnScope ["house", "word"] ["house", "word"] (defScope s_nearest) := ⟨rfl, rfl, rfl, by decide +kernel, rfl, by decide +kernel, by decide +kernel⟩
theorem ok_nearest (T : Txt K mg ea) (c__places_with_distance : Cl P w K mg base 3 "_places_with_distance" (spPl35 K)) {f c PT : Addr} {oc kV doc pm ct : Value} {od an : Option Addr} {osl : Array (Option Value)}
    (lk : K.lookup f = some ⟨oc, od, .func (PySem.W.fnOf "nearest" "nearest" (defArgs s_nearest) (defBody s_nearest) (defScope s_nearest) .none kV doc pm an (.ref c) ct), osl⟩) (hcd : PySem.W.codeIn K (.ref c) "nearest" = true) (hm : mg "nearest" = some (.ref f)) (kp : PySem.W.keepIn K (.ref f) = true)
    (hb : Binds K (PySem.W.fnOf "nearest" "nearest" (defArgs s_nearest) (defBody s_nearest) (defScope s_nearest) .none kV doc pm an (.ref c) ct) ["house", "word"] []) (TB : LamX.TabB base mg c PT) : Cl P w K mg base 4 "nearest" (spNst K PT) := by
  have nd := sc_nearest.nd
  refine ⟨f, _, ["house", "word"], [], ⟨fun vs H Q E h => ?_, fun A outer s H args us vs Q E hr e0 hbt rv h => ?_⟩, hm, kp, hb, .nil⟩
  · obtain ⟨a, L, z, rfl, _⟩ := h
    rfl
  refine LamX.run_ofS lk hcd sc_nearest hr e0 hbt rv (by obtain ⟨a, L, z, rfl, _⟩ := h; rfl) fun hr => ?_
  obtain ⟨a, L, z, rfl, hA, l8, t40, asc, z1, hT, q⟩ := h
  have key : ∃ t, PSs (cxOf C8.CX0 P w K mg base ["house", "word"] "nearest" (defScope s_nearest) f (.ref c) A outer s H E).nox (defBody s_nearest) t ∧ t { nx := fun _ H' => Q .non H', rt := Q } (L2.start ["house", "word"] [.ref a, .str z]) H := by
    refine ⟨_, (pss_one (ps_ret (KeyL.pe_minLam (T := TbP PT) hr (by rfl) T.b_min (by decide +kernel) (C8.pe_c c__places_with_distance hr (by decide) (by rfl) (pa_cons (pv 0) (pa_cons (pv 1) pa_nil))) TB rfl (List.mem_singleton.mpr rfl) (fun p hp _ => by rw [List.mem_singleton.mp hp]; rfl) rfl rfl rfl rfl rfl (by decide) (fun _ _ _ _ _ => rfl)))), ?_⟩
    refine ⟨_, rfl, _, rfl, a, L, z, rfl, hA, l8, t40, asc, z1, fun l R H1 s1 nl at1 hR eR => ?_⟩
    refine ⟨l, R.map (·.1), fun i => ((R[i]?).map fun r => r.2.2.2.2).getD 0, rfl, by rw [List.map_map]; exact SqL.of at1, fun i x hx => ?_, hT.ext (fun b o h => s1 b o h), fun H2 e2 _ => ?_⟩
    · rw [List.getElem?_map] at hx
      cases e : R[i]? with
      | none => rw [e] at hx; cases hx
      | some r =>
        rw [e] at hx
        obtain rfl : r.1 = x := Option.some.inj hx
        refine ⟨v4 r.2, hR r (List.mem_of_getElem? e), ?_⟩
        show some (V.int r.2.2.2.2) = some (V.int (((R[i]?).map fun r => r.2.2.2.2).getD 0))
        rw [e]
        rfl
    have e12 : LamX.ExtN H H2 := (LamX.ExtN.of fun b o h => s1 b o h).trans e2
    refine ⟨fun e0 => ?_, fun i x hx hl => ?_⟩
    · have : R = [] := List.map_eq_nil_iff.mp e0
      refine q H2 .non e12 ?_
      rw [← eR, this]
      rfl
    · rw [List.getElem?_map] at hx
      cases e : R[i]? with
      | none => rw [e] at hx; cases hx
      | some r =>
        rw [e] at hx
        obtain rfl : r.1 = x := Option.some.inj hx
        refine q H2 _ e12 ?_
        rw [← eR, leastQ_of (i := i) (q := r.2) (by rw [List.getElem?_map, e]; rfl) fun n y hy => ?_]
        · exact ⟨r.1, rfl, KeyL.sqT_ext (hR r (List.mem_of_getElem? e)) e2⟩
        · rw [List.getElem?_map] at hy
          cases en : R[n]? with
          | none => rw [en] at hy; cases hy
          | some rn =>
            rw [en] at hy
            obtain rfl : rn.2 = y := Option.some.inj hy
            have := hl n (by rw [List.length_map]; exact (List.getElem?_eq_some_iff.mp en).1)
            simp only [e, en] at this
            exact this
  obtain ⟨t, ht, hq⟩ := key
  exact ⟨t, ht.nox, hq⟩
end

end SH
set_option Elab.async false
set_option linter.all false
set_option maxRecDepth 100000
set_option maxHeartbeats 4000000
namespace SH
open PySem PySem.Spec PyProof.Rows L2
theorem hs_snoc {m : Nat} {h : List (Int × Str)} (a : IsHs m h) {n : Int} {z : Str} (lt : ∀ q ∈ h, q.1 < n) (n0 : 0 ≤ n) (n1 : n ≤ 99) (hz : IsLet z) (hl : z.length ≤ m) : IsHs m (h ++ [(n, z)]) := by
  refine ⟨?_, fun q hq => ?_, fun q hq => ?_⟩
  · rw [List.map_append, List.pairwise_append]
    refine ⟨a.asc, by simp, fun x hx y hy => ?_⟩
    obtain ⟨q, hq, rfl⟩ := List.mem_map.mp hx
    simp at hy
    subst hy
    exact lt q hq
  · rcases List.mem_append.mp hq with m1 | m1
    · exact a.num q m1
    · rw [List.mem_singleton.mp m1]; exact ⟨n0, n1⟩
  · rcases List.mem_append.mp hq with m1 | m1
    · exact a.txt q m1
    · rw [List.mem_singleton.mp m1]; exact ⟨hz, hl⟩

section
variable {P : Program} {w : World} {K : PySem.W.Frag} {mg : Str → Option Value} {base : Heap} {ea : Ea}
/-- a house drawn -/
def spHouse35 (K : PySem.W.Frag) : Sp := fun vs H Q _ => ∃ (a : Addr) (ns : List Int) (k : Int), vs = [.ref a, .int k] ∧ SqL K H a (ns.map V.int) ∧ Dr ns ∧ 0 ≤ k ∧ k < 10000 ∧
  ∀ (p : Addr) (L : PL) (H' : Hp), Same H H' → H p = none → H' p = some (.lst (refs L)) → PairsAt K H' L → L.length ≤ 3 → IsHs 7 (L.map (·.2)) → Q (.ref p) H'
structure HsSo (K : PySem.W.Frag) (H H' : Hp) (p : Addr) (i : Nat) (num : Int) (L : PL) : Prop where
  sm : Same H H'
  at_ : H' p = some (.lst (refs L))
  ps : PairsAt K H' L
  len : L.length = i
  hs : IsHs 7 (L.map (·.2))
  le : ∀ q ∈ L, q.2.1 ≤ num
  n0 : 0 ≤ num
  n1 : num ≤ 30 * (i : Int)
theorem sc__law_house : FnScope ["draws", "first", "house", "number", "k"] ["draws", "first"] (defScope s__law_house) := ⟨rfl, rfl, rfl, by decide +kernel, rfl, by decide +kernel, by decide +kernel⟩
theorem ok__law_house (T : Txt K mg ea) (c__law_at : Cl P w K mg base 1 "_law_at" (spDraw K)) (c__law_word : Cl P w K mg base 2 "_law_word" (spWord3 K)) : Cl P w K mg base 3 "_law_house" (spHouse35 K) := by
  have nd := sc__law_house.nd
  refine cl_of T.d__law_house sc__law_house (fun vs H Q E h => ?_) (fun f cdv A outer s H vs Q E hr h => ?_)
  · obtain ⟨a, ns, k, rfl, _⟩ := h
    rfl
  · obtain ⟨a, ns, k, rfl, hS, hD, h0, h1, q⟩ := h
    refine ⟨_, (pss_cons (ps_set (i := 2) nd rfl (.inl rfl) (pe_lst pa_nil))
      (pss_cons (ps_set (i := 3) nd rfl (.inl rfl) pe_int)
      (pss_cons (ps_for PassesOwn.never rfl (pi_range1 rfl T.b_range (pa_cons (C8.pe_c c__law_at hr (by decide) (by rfl) (pa_cons (pv 0) (pa_cons (pv 1) (pa_cons pe_int pa_nil)))) pa_nil)) (pg_name (i := 4) nd rfl (.inl rfl))
        (pss_cons (ps_set (i := 3) nd rfl (.inl rfl) (pe_op op_add (pe_op op_add (pv 3) pe_int) (C8.pe_c c__law_at hr (by decide) (by rfl) (pa_cons (pv 0) (pa_cons (pe_op op_add (pe_op op_add (pv 1) pe_int) (pe_op op_mul pe_int (pv 4))) (pa_cons pe_int pa_nil))))))
          (pss_one (ps_expr (pe_bm PySem.F.plainAttrs_list PySem.F.slot_list_append PySem.F.type_list_append mt_append (pv 2) (pa_cons (pe_tup (pa_cons (pv 3) (pa_cons (C8.pe_c c__law_word hr (by decide) (by rfl) (pa_cons (pv 0) (pa_cons (pe_op op_add (pe_op op_add (pv 1) pe_int) (pe_op op_mul pe_int (pv 4))) (pa_cons pe_int pa_nil)))) pa_nil))) pa_nil))))))
      (pss_one (ps_ret (pv 2)))))), ?_⟩
    refine ⟨Nat.zero_le _, fun p hp => ?_⟩
    have sm0 : Same H (upd H p (.lst [])) := same_new hp
    refine ⟨_, rfl, _, rfl, a, ns, k, 4, rfl, sm0.seq hS, hD, by omega, by omega, by omega, fun r r0 r1 => ?_⟩
    refine ⟨r, rfl, by omega, by omega, ?_⟩
    refine for_range (lo := 0) (n := r.toNat) (fun i σ H' => ∃ (L : PL) (num : Int) (y4 : Option V), σ = [some (.ref a), some (.int k), some (.ref p), some (.int num), y4] ∧ HsSo K H H' p i num L)
      ⟨[], 0, none, rfl, sm0, upd_same, (fun q hq => by cases hq), rfl, ⟨List.Pairwise.nil, (fun q hq => by cases hq), (fun q hq => by cases hq)⟩, (fun q hq => by cases hq), by omega, by omega⟩ (fun i σ H' hi hW => ?_) (fun σ H' hW => ?_)
    · obtain ⟨L, num, y4, rfl, hA⟩ := hW
      have n0 := hA.n0
      have n1 := hA.n1
      refine ⟨_, rfl, _, _, rfl, rfl, ?_⟩
      refine ⟨_, rfl, _, rfl, _, _, rfl, rfl, _, rfl, _, _, rfl, rfl, .inl (by decide), _, _, rfl, rfl, a, ns, k + 1 + 13 * (0 + (i : Int)), 30, rfl, hA.sm.seq hS, hD, by omega, by omega, by omega, fun g g0 g1 => ⟨_, _, rfl, rfl, ?_⟩⟩
      refine ⟨_, rfl, .inl ⟨rfl, _, SqL.of hA.at_⟩, _, rfl, ?_⟩
      refine ⟨_, rfl, _, rfl, _, _, rfl, rfl, _, rfl, _, _, rfl, rfl, .inl (by decide), _, _, rfl, rfl, a, ns, k + 2 + 13 * (0 + (i : Int)), 7, rfl, hA.sm.seq hS, hD, by omega, by omega, by omega, fun x H2 sm2 hx hxl => ⟨(by show 2 ≤ sizeLine; decide), fun t ht => ?_⟩⟩
      have at1 := sm2 _ _ hA.at_
      have pt : p ≠ t := ne_of_none at1 ht
      have st : Same H2 (upd H2 t (.tup [.int (num + 1 + g), .str x])) := same_new ht
      have at2 := st _ _ at1
      refine ⟨p, _, _, rfl, rfl, at2, ?_, ?_⟩
      · show (L.map _).length < sizeLine
        rw [List.length_map, hA.len]
        exact Nat.lt_of_le_of_lt (by omega : i ≤ 1000) (by decide)
      have smp := (hA.sm.trans sm2).trans st
      refine ⟨L ++ [(t, num + 1 + g, x)], num + 1 + g, _, rfl, same_mut smp hp, ?_, ?_, ?_, ?_, ?_, by omega, by omega⟩
      · rw [upd_same]; show _ = some (HO.lst (List.map _ _)); rw [List.map_append]; rfl
      · refine fun q hq => but_tup (l := refs L) at2 but_upd ?_
        rcases List.mem_append.mp hq with m1 | m1
        · exact same_tup (sm2.trans st) (hA.ps q m1)
        · rw [List.mem_singleton.mp m1]; exact .inl (.inl upd_same)
      · rw [List.length_append, hA.len]; rfl
      · rw [List.map_append]
        exact hs_snoc hA.hs (fun q hq => by
          obtain ⟨y, hy, rfl⟩ := List.mem_map.mp hq
          have := hA.le y hy
          show y.2.1 < num + 1 + g
          omega) (by omega) (by omega) hx hxl
      · intro q hq
        rcases List.mem_append.mp hq with m1 | m1
        · have := hA.le q m1; omega
        · rw [List.mem_singleton.mp m1]; exact Int.le_refl _
    · obtain ⟨L, num, y4, rfl, hA⟩ := hW
      exact ⟨_, rfl, q p L H' hA.sm hp hA.at_ hA.ps (by have := hA.len; omega) hA.hs⟩
end

end SH
set_option Elab.async false
set_option linter.all false
set_option maxRecDepth 100000
set_option maxHeartbeats 4000000
namespace SH
open PySem PySem.Spec PyProof.Rows L2
section
variable {P : Program} {w : World} {K : PySem.W.Frag} {mg : Str → Option Value} {base : Heap} {ea : Ea}
theorem sc__law_table : FnScope ["one", "two", "table", "i", "j", "found"] ["one", "two"] (defScope s__law_table) := ⟨rfl, rfl, rfl, by decide +kernel, rfl, by decide +kernel, by decide +kernel⟩
theorem ok__law_table (T : Txt K mg ea) : Cl P w K mg base 1 "_law_table" spTable := by
  have nd := sc__law_table.nd
  refine cl_of T.d__law_table sc__law_table (fun vs H Q E h => ?_) (fun f cdv A outer s H vs Q E0 hr h => ?_)
  · obtain ⟨a, b, rfl, _⟩ := h
    rfl
  · obtain ⟨a, b, rfl, al, bl, q⟩ := h
    refine ⟨_, (pss_cons (ps_setLc (i := 2) (own := [("i", 3)]) (g := (gName 3)) rfl nd rfl rfl (sw_true rfl rfl rfl (by decide +kernel)) (pi_range1 rfl T.b_range (pa_cons (pe_op op_add (pe_callB call_len_str (by rfl) T.b_len PySem.boot_len (pa_cons (pv 0) pa_nil)) pe_int) pa_nil)) (blkOk_by (own := [("i", 3)]) (N := ["one", "two", "table", "i", "j", "found"]) (sc := defScope s__law_table) (by decide +kernel)) (fun _ _ _ _ _ => (pg_name (i := 3) nd rfl (.inl rfl))) (fun _ _ _ _ _ => pts_nil) (fun _ _ _ _ _ => (pe_lc (own := [("j", 4)]) (g := (gName 4)) rfl nd (pi_range1 rfl T.b_range (pa_cons (pe_op op_add (pe_callB call_len_str (by rfl) T.b_len PySem.boot_len (pa_cons (pv 1) pa_nil)) pe_int) pa_nil)) (blkOk_by (own := [("j", 4)]) (N := ["one", "two", "table", "i", "j", "found"]) (sc := _) (by rfl)) (fun _ _ _ _ _ => (pg_name (i := 4) nd rfl (.inl rfl))) (fun _ _ _ _ _ => pts_nil) (fun _ _ _ _ _ => pe_int))))
      (pss_cons (ps_for PassesOwn.never rfl (pi_range3 rfl T.b_range (pa_cons (pe_callB call_len_str (by rfl) T.b_len PySem.boot_len (pa_cons (pv 0) pa_nil)) (pa_cons (pe_un un_neg pe_int) (pa_cons (pe_un un_neg pe_int) pa_nil)))) (pg_name (i := 3) nd rfl (.inl rfl))
        (pss_one (ps_for PassesOwn.never rfl (pi_range3 rfl T.b_range (pa_cons (pe_callB call_len_str (by rfl) T.b_len PySem.boot_len (pa_cons (pv 1) pa_nil)) (pa_cons (pe_un un_neg pe_int) (pa_cons (pe_un un_neg pe_int) pa_nil)))) (pg_name (i := 4) nd rfl (.inl rfl))
            (pss_cons (ps_set (i := 5) nd rfl (.inl rfl) (pe_lst pa_nil))
              (pss_cons (ps_if (pt_cmpR op_lt (pv 3) (pe_callB call_len_str (by rfl) T.b_len PySem.boot_len (pa_cons (pv 0) pa_nil)) (nomark _))
                (pss_one (ps_expr (pe_bm PySem.F.plainAttrs_list PySem.F.slot_list_append PySem.F.type_list_append mt_append (pv 5) (pa_cons (pe_op op_add (pe_ix (ixl (K := K)) (pe_ix (ixl (K := K)) (pv 2) (pe_op op_add (pv 3) pe_int) (fun _ _ => rfl)) (pv 4) (fun _ _ => rfl)) pe_int) pa_nil))))
                pss_nil)
              (pss_cons (ps_if (pt_cmpR op_lt (pv 4) (pe_callB call_len_str (by rfl) T.b_len PySem.boot_len (pa_cons (pv 1) pa_nil)) (nomark _))
                (pss_one (ps_expr (pe_bm PySem.F.plainAttrs_list PySem.F.slot_list_append PySem.F.type_list_append mt_append (pv 5) (pa_cons (pe_op op_add (pe_ix (ixl (K := K)) (pe_ix (ixl (K := K)) (pv 2) (pv 3) (fun _ _ => rfl)) (pe_op op_add (pv 4) pe_int) (fun _ _ => rfl)) pe_int) pa_nil))))
                pss_nil)
              (pss_cons (ps_if (PW.pt (pw_and (pt_cmpR op_lt (pv 3) (pe_callB call_len_str (by rfl) T.b_len PySem.boot_len (pa_cons (pv 0) pa_nil)) (nomark _)) (pw_and1 (pt_cmpR op_lt (pv 4) (pe_callB call_len_str (by rfl) T.b_len PySem.boot_len (pa_cons (pv 1) pa_nil)) (nomark _)))))
                (pss_one (ps_expr (pe_bm PySem.F.plainAttrs_list PySem.F.slot_list_append PySem.F.type_list_append mt_append (pv 5) (pa_cons (pe_op op_add (pe_ix (ixl (K := K)) (pe_ix (ixl (K := K)) (pv 2) (pe_op op_add (pv 3) pe_int) (fun _ _ => rfl)) (pe_op op_add (pv 4) pe_int) (fun _ _ => rfl)) (pe_callTy call_int1 (by rfl) T.b_int (by decide +kernel) (pa_cons (pe_cmpR op_ne (pe_ix ix_str (pv 0) (pv 3) (fun _ _ => rfl)) (pe_ix ix_str (pv 1) (pv 4) (fun _ _ => rfl)) (nomark _)) pa_nil))) pa_nil))))
                pss_nil)
              (pss_one (ps_if (pt_cmpR (op_neDK (K := K) hr.units) (pv 5) (pe_lst pa_nil) (nomark _))
                (pss_one (ps_asg (pe_callB (cr_min rfl) (by rfl) T.b_min (by decide +kernel) (pa_cons (pv 5) pa_nil)) (pg_sub (pe_ix (ixl (K := K)) (pv 2) (pv 3) (fun _ _ => rfl)) (pv 4) set_list)))
                pss_nil)))))))))
      (pss_one (ps_ret (pv 2))))), ?_⟩
    have zl : (TL.tl b).length = b.length := rfl
    have za : (TL.tl a).length = a.length := rfl
    have bs : b.length ≤ sizeLine := Nat.le_trans bl (by decide)
    have as : a.length ≤ sizeLine := Nat.le_trans al (by decide)
    -- zeros
    refine ⟨_, rfl, a, rfl, as, _, _, rfl, rfl, _, rfl, by omega, by omega, fun D nD => ?_⟩
    refine lc_w (walk_range (lo := 0) (n := ((a.length : Int) + 1).toNat)) nD (by omega) (fun _ _ => trivial) (fun i acc H' => ∃ rs : List Addr, acc = rs.map V.ref ∧ rs.length = i ∧ rs.Nodup ∧ ∀ r ∈ rs, r ≠ D ∧ H r = none ∧ H' r = some (.lst (List.replicate (b.length + 1) (.int 0)))) (fun _ _ => ⟨[], rfl, rfl, List.nodup_nil, fun _ m => nomatch m⟩)
      (fun i acc Ha Hb l hD e r => by
        obtain ⟨rs, r1, r2, r3, r4⟩ := r
        exact ⟨rs, r1, r2, r3, fun y m => ⟨(r4 y m).1, (r4 y m).2.1, e _ _ (r4 y m).1 (r4 y m).2.2⟩⟩) (fun i H x H' y => by rw [y.1]; exact Same.refl _) (fun j x acc Ha Hb Qn Qf hj sm y r at_ kn kf => ?_) (fun acc H1 s1 at1 _ r => ?_)
    · obtain ⟨rfl, ex⟩ := y
      obtain ⟨rs, rfl, r2, r3, r4⟩ := r
      refine ⟨rfl, _, rfl, b, rfl, bs, _, _, rfl, rfl, _, rfl, by omega, by omega, fun D2 nD2 => ?_⟩
      refine lc_w (walk_range (lo := 0) (n := ((b.length : Int) + 1).toNat)) nD2 (by omega) (fun _ _ => trivial) (fun i acc H' => acc = List.replicate i (.int 0)) (fun _ _ => rfl) (fun _ _ _ _ _ _ _ r => r) (fun i H x H' y => by rw [y.1]; exact Same.refl _) (fun k x acc Hc Hd Qn Qf hk sm2 y r at2 kn2 kf2 => ?_) (fun acc H2 s2 at2 _ r => ?_)
      · obtain ⟨rfl, ex⟩ := y
        refine ⟨rfl, kn2 _ _ (Same.refl _) ?_⟩
        rw [r, List.replicate_succ']
      · subst r
        refine kn _ _ s2 ⟨rs ++ [D2], by rw [List.map_append]; rfl, by rw [List.length_append, r2]; rfl, ?_, fun y hy => ?_⟩
        · rw [List.nodup_append]
          refine ⟨r3, by simp, fun u hu v hv e => ?_⟩
          rw [List.mem_singleton.mp hv] at e
          subst e
          rw [(r4 u hu).2.2] at nD2
          cases nD2
        · rcases List.mem_append.mp hy with m | m
          · exact ⟨(r4 y m).1, (r4 y m).2.1, s2 _ _ (r4 y m).2.2⟩
          · rw [List.mem_singleton.mp m]
            refine ⟨fun z => ?_, sm.free nD2, ?_⟩
            · rw [z, at_] at nD2
              cases nD2
            · rw [at2, show ((b.length : Int) + 1).toNat = b.length + 1 by omega]
    obtain ⟨rs, rfl, r2, r3, r4⟩ := r
    have tf0 : TabF H H1 D rs a.length b.length (fun _ _ => 0) := ⟨s1, at1, nD, by rw [r2]; omega, r3, fun r m => ⟨(r4 r m).1, (r4 r m).2.1⟩, fun i r e => by
      rw [(r4 r (List.mem_of_getElem? e)).2.2]
      unfold rowF
      rw [List.map_const', List.length_range]⟩
    -- from below
    refine ⟨_, rfl, a, rfl, as, _, rfl, _, rfl, _, _, _, _, rfl, RgC.neg (by omega) (by omega) (by omega) (by omega), ?_⟩
    refine for_rangeC (lo := (a.length : Int)) (c := -1) (n := ((a.length : Int) - (-1)).toNat) (fun k σ H' => ∃ (F : Nat → Nat → Int) (y3 y4 y5 : Option V), σ = [some (.str a), some (.str b), some (.ref D), y3, y4, y5] ∧ TabF H H' D rs a.length b.length F ∧ (k = 0 → F a.length b.length = 0) ∧ ∀ u v, u ≤ a.length → v ≤ b.length → a.length < u + k → F u v = ((ed ((TL.tl a).drop u) ((TL.tl b).drop v) : Nat) : Int))
      ⟨_, none, none, none, rfl, tf0, fun _ => rfl, fun u v h1 h2 h3 => absurd h3 (by omega)⟩ (fun k σ H' hk hW => ?_) (fun σ H' hW => ?_)
    · obtain ⟨F, y3, y4, y5, rfl, tf, hz, hF⟩ := hW
      obtain ⟨i, ei, il⟩ : ∃ i : Nat, (a.length : Int) + (k : Int) * (-1) = (i : Int) ∧ i + k = a.length := ⟨a.length - k, by omega, by omega⟩
      rw [ei]
      refine ⟨_, rfl, b, rfl, bs, _, rfl, _, rfl, _, _, _, _, rfl, RgC.neg (by omega) (by omega) (by omega) (by omega), ?_⟩
      refine for_rangeC (lo := (b.length : Int)) (c := -1) (n := ((b.length : Int) - (-1)).toNat) (fun l σ H' => ∃ (F : Nat → Nat → Int) (y4 y5 : Option V), σ = [some (.str a), some (.str b), some (.ref D), some (.int (i : Int)), y4, y5] ∧ TabF H H' D rs a.length b.length F ∧ (k = 0 → l = 0 → F a.length b.length = 0) ∧ ∀ u v, u ≤ a.length → v ≤ b.length → (i < u ∨ (u = i ∧ b.length < v + l)) → F u v = ((ed ((TL.tl a).drop u) ((TL.tl b).drop v) : Nat) : Int))
        ⟨F, y4, y5, rfl, tf, fun h _ => hz h, fun u v h1 h2 h3 => hF u v h1 h2 (by omega)⟩ (fun l σ H' hl hW => ?_) (fun σ H' hW => ?_)
      · obtain ⟨F0, y4, y5, rfl, tf, hz, hF⟩ := hW
        obtain ⟨j, ej, jl⟩ : ∃ j : Nat, (b.length : Int) + (l : Int) * (-1) = (j : Int) ∧ j + l = b.length := ⟨b.length - l, by omega, by omega⟩
        rw [ej]
        refine ⟨Nat.zero_le _, fun p np => ?_⟩
        have tf1 := tf.same (same_new (o := .lst []) np)
        have atp : (upd H' p (.lst [])) p = some (.lst []) := upd_same
        have e1 : ∀ n : Nat, (n : Int) + 1 = ((n + 1 : Nat) : Int) := fun n => by omega
        have sG := same_new (o := .lst []) np
        have app : ∀ (G : Hp) (l : List Int) (v : Int), Same H' G → Same H' (upd G p (.lst (l.map V.int ++ [.int v]))) ∧ (upd G p (.lst (l.map V.int ++ [.int v]))) p = some (.lst ((l ++ [v]).map V.int)) := fun G l v s => ⟨same_mut s np, by rw [upd_same, List.map_append]; rfl⟩
        have atp0 : (upd H' p (.lst [])) p = some (.lst (([] : List Int).map V.int)) := upd_same
        have fin : ∀ (G : Hp) (r : Addr) (v : Int), Same H' G → rs[i]? = some r → v = ((ed ((TL.tl a).drop i) ((TL.tl b).drop j) : Nat) : Int) → ∃ (F : Nat → Nat → Int) (y4 y5 : Option V), [some (V.str a), some (.str b), some (.ref D), some (.int (i : Int)), some (.int (j : Int)), some (.ref p)] = [some (.str a), some (.str b), some (.ref D), some (.int (i : Int)), y4, y5] ∧ TabF H (upd G r (.lst ((rowF F0 b.length i).set j (.int v)))) D rs a.length b.length F ∧ (k = 0 → l + 1 = 0 → F a.length b.length = 0) ∧
            ∀ u v, u ≤ a.length → v ≤ b.length → (i < u ∨ (u = i ∧ b.length < v + (l + 1))) → F u v = ((ed ((TL.tl a).drop u) ((TL.tl b).drop v) : Nat) : Int) := fun G r v s e ev => by
          refine ⟨_, _, _, rfl, (tf.same s).set e (by omega) v, fun _ h => absurd h (by omega), fun u w h1 h2 h3 => ?_⟩
          by_cases c : u = i ∧ w = j
          · obtain ⟨rfl, rfl⟩ := c
            rw [setF_same, ev]
          · rw [setF_ne c]
            exact hF u w h1 h2 (by omega)
        have tG := fun (G : Hp) (s : Same H' G) => tf.same s
        generalize upd H' p (.lst []) = G0 at sG atp0 ⊢
        -- the first one
        refine ⟨_, rfl, _, rfl, a, rfl, as, _, _, rfl, rfl, _, rfl, ?_⟩
        by_cases ci : i < a.length
        · rw [decide_eq_true (by omega)]
          obtain ⟨r1, x1, x2, x3, x4, x5⟩ := (tG G0 sG).cell (i := i + 1) (j := j) (by omega) (by omega)
          refine ⟨_, rfl, .inl ⟨rfl, _, SqL.of atp0⟩, _, rfl, _, rfl, _, _, rfl, rfl, D, _, _, _, rfl, rfl, SqL.of (tG G0 sG).at_, (by rw [e1]; exact x3), _, rfl, r1, _, _, _, rfl, rfl, SqL.of x4, x5, _, _, rfl, rfl, p, _, _, rfl, rfl, atp0, (by show 0 < sizeLine; decide), ?_⟩
          obtain ⟨sG1, atp1⟩ := app G0 [] (F0 (i + 1) j + 1) sG
          generalize upd G0 p (.lst (([] : List Int).map V.int ++ [.int (F0 (i + 1) j + 1)])) = G1 at sG1 atp1 ⊢
          have f1 := hF (i + 1) j (by omega) (by omega) (.inl (by omega))
          have da : (TL.tl a).drop i = (TL.tl a)[i] :: (TL.tl a).drop (i + 1) := drop_cons (by rw [za]; omega)
          refine ⟨_, rfl, _, rfl, b, rfl, bs, _, _, rfl, rfl, _, rfl, ?_⟩
          by_cases cj : j < b.length
          · rw [decide_eq_true (by omega)]
            have db : (TL.tl b).drop j = (TL.tl b)[j] :: (TL.tl b).drop (j + 1) := drop_cons (by rw [zl]; omega)
            obtain ⟨r2, x1, x2, x3, x4, x5⟩ := (tG G1 sG1).cell (i := i) (j := j + 1) (by omega) (by omega)
            refine ⟨_, rfl, .inl ⟨rfl, _, SqL.of atp1⟩, _, rfl, _, rfl, D, _, _, _, rfl, rfl, SqL.of (tG G1 sG1).at_, x3, _, rfl, _, _, rfl, rfl, r2, _, _, _, rfl, rfl, SqL.of x4, (by rw [e1]; exact x5), _, _, rfl, rfl, p, _, _, rfl, rfl, atp1, (by show 1 < sizeLine; decide), ?_⟩
            obtain ⟨sG2, atp2⟩ := app G1 ([] ++ [F0 (i + 1) j + 1]) (F0 i (j + 1) + 1) sG1
            generalize upd G1 p (.lst (([] ++ [F0 (i + 1) j + 1]).map V.int ++ [.int (F0 i (j + 1) + 1)])) = G2 at sG2 atp2 ⊢
            have f2 := hF i (j + 1) (by omega) (by omega) (.inr ⟨rfl, by omega⟩)
            have f3 := hF (i + 1) (j + 1) (by omega) (by omega) (.inl (by omega))
            refine ⟨_, rfl, _, rfl, a, rfl, as, _, _, rfl, rfl, _, rfl, ?_⟩
            rw [decide_eq_true (by omega)]
            refine ⟨_, rfl, _, rfl, b, rfl, bs, _, _, rfl, rfl, _, rfl, ?_⟩
            rw [decide_eq_true (by omega)]
            obtain ⟨r3, x1, x2, x3, x4, x5⟩ := (tG G2 sG2).cell (i := i + 1) (j := j + 1) (by omega) (by omega)
            have g1 : (TL.tl a)[i]? = some (TL.tl a)[i] := List.getElem?_eq_getElem (by rw [za]; omega)
            have g2 : (TL.tl b)[j]? = some (TL.tl b)[j] := List.getElem?_eq_getElem (by rw [zl]; omega)
            generalize (TL.tl a)[i] = ca at da g1
            generalize (TL.tl b)[j] = cb at db g2
            refine ⟨_, rfl, .inl ⟨rfl, _, SqL.of atp2⟩, _, rfl, _, rfl, _, _, rfl, rfl, D, _, _, _, rfl, rfl, SqL.of (tG G2 sG2).at_, (by rw [e1]; exact x3), _, rfl, _, _, rfl, rfl, r3, _, _, _, rfl, rfl, SqL.of x4, (by rw [e1]; exact x5), ?_⟩
            refine ⟨_, rfl, _, rfl, a, _, _, rfl, rfl, as, atI_nat g1, _, rfl, _, rfl, b, _, _, rfl, rfl, bs, atI_nat g2, rfl, .inr ⟨_, rfl, _, _, rfl, rfl, p, _, _, rfl, rfl, atp2, (by show 2 < sizeLine; decide), ?_⟩⟩
            have cst : (if (!decide (V.str ⟨#[ca]⟩ = V.str ⟨#[cb]⟩)) = true then (1 : Int) else 0) = ((if ca = cb then 0 else 1 : Nat) : Int) := by
              by_cases c : ca = cb
              · subst c
                rw [decide_eq_true rfl, if_pos rfl]
                rfl
              · have : ¬ V.str ⟨#[ca]⟩ = V.str ⟨#[cb]⟩ := fun h => c (by
                  have h := Str.mk.inj (V.str.inj h)
                  simpa using h)
                rw [decide_eq_false this, if_neg c]
                rfl
            rw [cst]
            obtain ⟨sG3, atp3⟩ := app G2 ([] ++ [F0 (i + 1) j + 1] ++ [F0 i (j + 1) + 1]) (F0 (i + 1) (j + 1) + ((if ca = cb then 0 else 1 : Nat) : Int)) sG2
            generalize upd G2 p (.lst (([] ++ [F0 (i + 1) j + 1] ++ [F0 i (j + 1) + 1]).map V.int ++ [.int (F0 (i + 1) (j + 1) + ((if ca = cb then 0 else 1 : Nat) : Int))])) = G3 at sG3 atp3 ⊢
            refine ⟨_, rfl, Nat.zero_le _, fun z nz => ?_⟩
            have sz := same_new (o := .lst []) nz
            refine ⟨_, _, dp_i (SqL.of (sz _ _ atp3)), dp_i (l := []) (SqL.of upd_same), (okd_sh (okd_I _)).1, (okd_sh (okd_I _)).1, ?_⟩
            rw [show PyData.eqv (dI ([] ++ [F0 (i + 1) j + 1] ++ [F0 i (j + 1) + 1] ++ [F0 (i + 1) (j + 1) + ((if ca = cb then 0 else 1 : Nat) : Int)])) (dI []) = false from rfl]
            refine ⟨_, rfl, iteT ?_⟩
            have sG4 := sG3.trans sz
            have atp4 := sz _ _ atp3
            generalize upd G3 z (.lst []) = G4 at sG4 atp4 ⊢
            obtain ⟨r4, x1, x2, x3, x4, x5⟩ := (tG G4 sG4).cell (i := i) (j := j) (by omega) (by omega)
            refine ⟨_, rfl, p, _, rfl, SqL.of atp4, (by show 0 < 3; decide), fun v hv hm => ?_⟩
            have m1 := hm _ (by simp : F0 (i + 1) j + 1 ∈ [] ++ [F0 (i + 1) j + 1] ++ [F0 i (j + 1) + 1] ++ [F0 (i + 1) (j + 1) + ((if ca = cb then 0 else 1 : Nat) : Int)])
            have m2 := hm _ (by simp : F0 i (j + 1) + 1 ∈ [] ++ [F0 (i + 1) j + 1] ++ [F0 i (j + 1) + 1] ++ [F0 (i + 1) (j + 1) + ((if ca = cb then 0 else 1 : Nat) : Int)])
            have m3 := hm _ (by simp : F0 (i + 1) (j + 1) + ((if ca = cb then 0 else 1 : Nat) : Int) ∈ [] ++ [F0 (i + 1) j + 1] ++ [F0 i (j + 1) + 1] ++ [F0 (i + 1) (j + 1) + ((if ca = cb then 0 else 1 : Nat) : Int)])
            have hv : v = F0 (i + 1) j + 1 ∨ v = F0 i (j + 1) + 1 ∨ v = F0 (i + 1) (j + 1) + ((if ca = cb then 0 else 1 : Nat) : Int) := by simpa using hv
            refine ⟨_, rfl, _, rfl, D, _, _, _, rfl, rfl, SqL.of (tG G4 sG4).at_, x3, _, rfl, r4, _, _, j, rfl, rfl, x4, ixN_nat (by rw [rowF_len]; omega), ?_⟩
            refine fin G4 r4 v sG4 x1 ?_
            rw [da, db, ed_cons]
            rw [da] at f2
            rw [db] at f1
            rw [f1] at m1 hv
            rw [f2] at m2 hv
            rw [f3] at m3 hv
            generalize (if ca = cb then 0 else 1 : Nat) = cc at m3 hv ⊢
            omega
          · rw [decide_eq_false (by omega)]
            have db : (TL.tl b).drop j = [] := List.drop_eq_nil_of_le (by rw [zl]; omega)
            refine ⟨_, rfl, _, rfl, a, rfl, as, _, _, rfl, rfl, _, rfl, ?_⟩
            rw [decide_eq_true (by omega)]
            refine ⟨_, rfl, _, rfl, b, rfl, bs, _, _, rfl, rfl, _, rfl, ?_⟩
            rw [decide_eq_false (by omega)]
            refine ⟨_, rfl, Nat.zero_le _, fun z nz => ?_⟩
            have sz := same_new (o := .lst []) nz
            refine ⟨_, _, dp_i (SqL.of (sz _ _ atp1)), dp_i (l := []) (SqL.of upd_same), (okd_sh (okd_I _)).1, (okd_sh (okd_I _)).1, ?_⟩
            rw [show PyData.eqv (dI ([] ++ [F0 (i + 1) j + 1])) (dI []) = false from rfl]
            refine ⟨_, rfl, iteT ?_⟩
            have sG4 := sG1.trans sz
            have atp4 := sz _ _ atp1
            generalize upd G1 z (.lst []) = G4 at sG4 atp4 ⊢
            obtain ⟨r4, x1, x2, x3, x4, x5⟩ := (tG G4 sG4).cell (i := i) (j := j) (by omega) (by omega)
            refine ⟨_, rfl, p, _, rfl, SqL.of atp4, (by show 0 < 1; decide), fun v hv hm => ?_⟩
            have hv : v = F0 (i + 1) j + 1 := by simpa using hv
            refine ⟨_, rfl, _, rfl, D, _, _, _, rfl, rfl, SqL.of (tG G4 sG4).at_, x3, _, rfl, r4, _, _, j, rfl, rfl, x4, ixN_nat (by rw [rowF_len]; omega), ?_⟩
            refine fin G4 r4 v sG4 x1 ?_
            rw [hv, f1, da, db, ed_nil2, ed_nil2, List.length_cons]
            omega
        · rw [decide_eq_false (by omega)]
          have da : (TL.tl a).drop i = [] := List.drop_eq_nil_of_le (by rw [za]; omega)
          refine ⟨_, rfl, _, rfl, b, rfl, bs, _, _, rfl, rfl, _, rfl, ?_⟩
          by_cases cj : j < b.length
          · rw [decide_eq_true (by omega)]
            have db : (TL.tl b).drop j = (TL.tl b)[j] :: (TL.tl b).drop (j + 1) := drop_cons (by rw [zl]; omega)
            obtain ⟨r2, x1, x2, x3, x4, x5⟩ := (tG G0 sG).cell (i := i) (j := j + 1) (by omega) (by omega)
            refine ⟨_, rfl, .inl ⟨rfl, _, SqL.of atp0⟩, _, rfl, _, rfl, D, _, _, _, rfl, rfl, SqL.of (tG G0 sG).at_, x3, _, rfl, _, _, rfl, rfl, r2, _, _, _, rfl, rfl, SqL.of x4, (by rw [e1]; exact x5), _, _, rfl, rfl, p, _, _, rfl, rfl, atp0, (by show 0 < sizeLine; decide), ?_⟩
            obtain ⟨sG2, atp2⟩ := app G0 [] (F0 i (j + 1) + 1) sG
            generalize upd G0 p (.lst (([] : List Int).map V.int ++ [.int (F0 i (j + 1) + 1)])) = G2 at sG2 atp2 ⊢
            have f2 := hF i (j + 1) (by omega) (by omega) (.inr ⟨rfl, by omega⟩)
            refine ⟨_, rfl, _, rfl, a, rfl, as, _, _, rfl, rfl, _, rfl, ?_⟩
            rw [decide_eq_false (by omega)]
            refine iteF ?_
            refine ⟨_, rfl, Nat.zero_le _, fun z nz => ?_⟩
            have sz := same_new (o := .lst []) nz
            refine ⟨_, _, dp_i (SqL.of (sz _ _ atp2)), dp_i (l := []) (SqL.of upd_same), (okd_sh (okd_I _)).1, (okd_sh (okd_I _)).1, ?_⟩
            rw [show PyData.eqv (dI ([] ++ [F0 i (j + 1) + 1])) (dI []) = false from rfl]
            refine ⟨_, rfl, iteT ?_⟩
            have sG4 := sG2.trans sz
            have atp4 := sz _ _ atp2
            generalize upd G2 z (.lst []) = G4 at sG4 atp4 ⊢
            obtain ⟨r4, x1, x2, x3, x4, x5⟩ := (tG G4 sG4).cell (i := i) (j := j) (by omega) (by omega)
            refine ⟨_, rfl, p, _, rfl, SqL.of atp4, (by show 0 < 1; decide), fun v hv hm => ?_⟩
            have hv : v = F0 i (j + 1) + 1 := by simpa using hv
            refine ⟨_, rfl, _, rfl, D, _, _, _, rfl, rfl, SqL.of (tG G4 sG4).at_, x3, _, rfl, r4, _, _, j, rfl, rfl, x4, ixN_nat (by rw [rowF_len]; omega), ?_⟩
            refine fin G4 r4 v sG4 x1 ?_
            rw [hv, f2, da, db, ed_nil, ed_nil, List.length_cons]
            omega
          · rw [decide_eq_false (by omega)]
            have db : (TL.tl b).drop j = [] := List.drop_eq_nil_of_le (by rw [zl]; omega)
            refine ⟨_, rfl, _, rfl, a, rfl, as, _, _, rfl, rfl, _, rfl, ?_⟩
            rw [decide_eq_false (by omega)]
            refine iteF ?_
            refine ⟨_, rfl, Nat.zero_le _, fun z nz => ?_⟩
            have sz := same_new (o := .lst []) nz
            refine ⟨_, _, dp_i (l := []) (SqL.of (sz _ _ atp0)), dp_i (l := []) (SqL.of upd_same), (okd_sh (okd_I _)).1, (okd_sh (okd_I _)).1, ?_⟩
            rw [show PyData.eqv (dI []) (dI []) = true from rfl]
            refine ⟨_, rfl, iteF ?_⟩
            have i0 : i = a.length := by omega
            have j0 : j = b.length := by omega
            refine ⟨F0, _, _, rfl, tG _ (sG.trans sz), fun _ h => absurd h (by omega), fun u v h1 h2 h3 => ?_⟩
            by_cases c : u = i ∧ v = j
            · obtain ⟨rfl, rfl⟩ := c
              rw [da, db, ed_nil]
              show F0 u v = 0
              rw [i0, j0]
              exact hz (by omega) (by omega)
            · exact hF u v h1 h2 (by omega)
      · obtain ⟨F, y4, y5, rfl, tf, hz, hF⟩ := hW
        exact ⟨F, _, _, _, rfl, tf, fun h => absurd h (by omega), fun u v h1 h2 h3 => hF u v h1 h2 (by omega)⟩
    · obtain ⟨F, y3, y4, y5, rfl, tf, hz, hF⟩ := hW
      exact ⟨_, rfl, q D rs H' tf.sm (tf.tab (x := TL.tl a) (y := TL.tl b) fun u v h1 h2 => hF u v h1 h2 (by omega))⟩
end

end SH
set_option Elab.async false
set_option linter.all false
set_option maxRecDepth 100000
set_option maxHeartbeats 4000000
namespace SH
open PySem PySem.Spec PyProof.Rows L2
section
variable {P : Program} {w : World} {K : PySem.W.Frag} {mg : Str → Option Value} {base : Heap} {ea : Ea}
theorem tl_cut35 {z : Str} {a b : Nat} (h1 : a ≤ b) (h2 : b ≤ z.length) : TL.tl (cutS z (some (a : Int)) (some (b : Int))) = cutW (TL.tl z) a b := by
  show (z.cps.toList.drop (HT.sIx z.length 0 (some (a : Int)))).take (HT.sIx z.length z.length (some (b : Int)) - HT.sIx z.length 0 (some (a : Int))) = _
  rw [HT.sIx_nat, HT.sIx_nat, Nat.min_eq_left h2, Nat.min_eq_left (Nat.le_trans h1 h2)]
  unfold cutW
  rw [List.drop_take]
/-- all places, each start and stop tried -/
def spAll35 (K : PySem.W.Frag) : Sp := fun vs H Q _ => ∃ (a : Addr) (L : PL) (z : Str), vs = [.ref a, .str z] ∧ HsAt K H a L ∧ L.length ≤ 8 ∧ (∀ q ∈ L, q.2.2.length ≤ 40) ∧ z.length ≤ 100 ∧
  ∀ (l : Addr) (R : RT) (H' : Hp), Same H H' → H l = none → H' l = some (.lst (refs4 R)) → T4At K H' R → R.map (·.2) = allR (L.map (·.2)) z → Q (.ref l) H'
theorem sc__law_all : FnScope ["house", "word", "out", "number", "text", "start", "stop"] ["house", "word"] (defScope s__law_all) := ⟨rfl, rfl, rfl, by decide +kernel, rfl, by decide +kernel, by decide +kernel⟩
theorem ok__law_all (T : Txt K mg ea) (c__law_table : Cl P w K mg base 1 "_law_table" spTable) : Cl P w K mg base 2 "_law_all" (spAll35 K) := by
  have nd := sc__law_all.nd
  refine cl_of T.d__law_all sc__law_all (fun vs H Q E h => ?_) (fun f cdv A outer s H vs Q E0 hr h => ?_)
  · obtain ⟨a, L, z, rfl, _⟩ := h
    rfl
  · obtain ⟨a, L, z, rfl, hA, l8, t40, z1, q⟩ := h
    refine ⟨_, (pss_cons (ps_set (i := 2) nd rfl (.inl rfl) (pe_lst pa_nil))
      (pss_cons (ps_for PassesOwn.never rfl (pi_listK (K := K) (pv 0)) (pg_tup rfl (pgs_cons (pg_name (i := 3) nd rfl (.inl rfl)) (pgs_cons (pg_name (i := 4) nd rfl (.inl rfl)) pgs_nil)))
        (pss_one (ps_for PassesOwn.never rfl (pi_range1 rfl T.b_range (pa_cons (pe_op op_add (pe_callB call_len_str (by rfl) T.b_len PySem.boot_len (pa_cons (pv 4) pa_nil)) pe_int) pa_nil)) (pg_name (i := 5) nd rfl (.inl rfl))
            (pss_one (ps_for PassesOwn.never rfl (pi_range2 rfl T.b_range (pa_cons (pv 5) (pa_cons (pe_op op_add (pe_callB call_len_str (by rfl) T.b_len PySem.boot_len (pa_cons (pv 4) pa_nil)) pe_int) pa_nil))) (pg_name (i := 6) nd rfl (.inl rfl))
                (pss_one (ps_expr (pe_bm PySem.F.plainAttrs_list PySem.F.slot_list_append PySem.F.type_list_append mt_append (pv 2) (pa_cons (pe_tup (pa_cons (pv 3) (pa_cons (pv 5) (pa_cons (pv 6) (pa_cons (pe_ix (ixl (K := K)) (pe_ix (ixl (K := K)) (C8.pe_c c__law_table hr (by decide) (by rfl) (pa_cons (pv 1) (pa_cons (pe_slice sl_str (pv 4) (po_some (pv 5)) (po_some (pv 6))) pa_nil))) pe_int (fun _ _ => rfl)) pe_int (fun _ _ => rfl)) pa_nil))))) pa_nil)))))))))
      (pss_one (ps_ret (pv 2))))), ?_⟩
    have sz4 : 4 ≤ sizeLine := by decide
    have rl := refs_len L
    have big : ∀ (i : Nat) (X Y : List Q4) (t : Addr × Int × Str), L[i]? = some t → X.length ≤ 41 * 41 → Y.length ≤ 41 → (allR ((L.map (·.2)).take i) z ++ X ++ Y).length ≤ 20000 := fun i X Y t ht h1 h2 => by
      have h1 := allR_len (z := z) (h := (L.map (·.2)).take i) (by rw [List.length_take, List.length_map]; omega) (fun q hq => by
        obtain ⟨y, hy, rfl⟩ := List.mem_map.mp ((List.take_subset _ _) hq)
        exact t40 y hy)
      rw [List.length_append, List.length_append]
      omega
    refine ⟨Nat.zero_le _, fun F nF => ?_⟩
    have s0 := same_new (o := .lst []) nF
    refine ⟨_, rfl, a, rfl, ⟨_, s0.seq hA.1⟩, ?_⟩
    refine for_it (walk_list (K := K) (a := a) (xs := refs L)) (fun i σ H' => ∃ (R : RT) (y3 y4 y5 y6 : Option V), σ = [some (.ref a), some (.str z), some (.ref F), y3, y4, y5, y6] ∧ Same H H' ∧ H' F = some (.lst (refs4 R)) ∧ T4At K H' R ∧ R.map (·.2) = allR ((L.map (·.2)).take i) z)
      ⟨[], _, _, _, _, rfl, s0, upd_same, (fun r m => nomatch m), rfl⟩ (fun i σ H' _ hW => ?_) (fun i x σ Ha Hb hi hW y => ?_) (fun σ H' hW => ?_)
    · obtain ⟨_, _, _, _, _, _, sm, _⟩ := hW
      exact sm.seq hA.1
    · obtain ⟨R, y3, y4, y5, y6, rfl, sm, atF, hR, eR⟩ := hW
      obtain ⟨rfl, hx⟩ := y
      obtain ⟨t, ht, tm, rfl⟩ := refs_at hx
      have tl := t40 t tm
      have ts : t.2.2.length ≤ sizeLine := Nat.le_trans tl (by decide)
      refine ⟨_, _, rfl, same_tup sm (hA.2 t tm), rfl, _, _, rfl, _, _, rfl, rfl, ?_⟩
      refine ⟨_, rfl, t.2.2, rfl, ts, _, _, rfl, rfl, _, rfl, by omega, by omega, ?_⟩
      have en : ((t.2.2.length : Int) + 1).toNat = t.2.2.length + 1 := by omega
      refine for_range (lo := 0) (n := ((t.2.2.length : Int) + 1).toNat) (fun j σ H' => ∃ (R : RT) (y5 y6 : Option V), σ = [some (.ref a), some (.str z), some (.ref F), some (.int t.2.1), some (.str t.2.2), y5, y6] ∧ Same H H' ∧ H' F = some (.lst (refs4 R)) ∧ T4At K H' R ∧ R.map (·.2) = allR ((L.map (·.2)).take i) z ++ (List.range j).flatMap (rowsI z t.2))
        ⟨R, _, _, rfl, sm, atF, hR, by rw [eR]; simp⟩ (fun j σ H1 hj hW => ?_) (fun σ H1 hW => ?_)
      · obtain ⟨R, y5, y6, rfl, sm, atF, hR, eR⟩ := hW
        have e0 : (0 : Int) + (j : Int) = (j : Int) := Int.zero_add _
        simp only [e0]
        rw [en] at hj
        refine ⟨_, rfl, _, rfl, t.2.2, rfl, ts, _, _, rfl, rfl, _, _, rfl, by omega, ?_⟩
        refine for_range (lo := (j : Int)) (n := ((t.2.2.length : Int) + 1 - (j : Int)).toNat) (fun k σ H' => ∃ (R : RT) (y6 : Option V), σ = [some (.ref a), some (.str z), some (.ref F), some (.int t.2.1), some (.str t.2.2), some (.int (j : Int)), y6] ∧ Same H H' ∧ H' F = some (.lst (refs4 R)) ∧ T4At K H' R ∧ R.map (·.2) = allR ((L.map (·.2)).take i) z ++ (List.range j).flatMap (rowsI z t.2) ++ (List.range k).map fun k => row4 z t.2 j (j + k))
          ⟨R, _, rfl, sm, atF, hR, by rw [eR]; simp⟩ (fun k σ H1 hk hW => ?_) (fun σ H1 hW => ?_)
        · obtain ⟨R, y6, rfl, sm, atF, hR, eR⟩ := hW
          have ejk : (j : Int) + (k : Int) = ((j + k : Nat) : Int) := by omega
          rw [ejk]
          have cl : (cutS t.2.2 (some (j : Int)) (some ((j + k : Nat) : Int))).length ≤ 40 := Nat.le_trans (cutS_length _ _ _) tl
          have ct := tl_cut35 (z := t.2.2) (a := j) (b := j + k) (by omega) (by omega)
          refine ⟨_, rfl, .inl ⟨rfl, _, SqL.of atF⟩, _, rfl, _, rfl, _, rfl, ?_⟩
          refine ⟨_, rfl, _, rfl, _, rfl, (j : Int), rfl, _, rfl, ((j + k : Nat) : Int), rfl, t.2.2, rfl, ts, z, cutS t.2.2 (some (j : Int)) (some ((j + k : Nat) : Int)), rfl, by omega, by omega, fun tb rs H2 s2 nt => ?_⟩
          obtain ⟨hT, ntb, _⟩ := nt
          rw [ct] at hT
          have rsl : rs.length = z.length + 1 := by rw [hT.len, tabE_len]; rfl
          obtain ⟨ra, era⟩ : ∃ ra, rs[0]? = some ra := ⟨_, List.getElem?_eq_getElem (by omega)⟩
          have hrow := hT.row 0 ra _ era (tabE_at (Nat.zero_le _))
          refine ⟨tb, _, _, _, rfl, rfl, SqL.of hT.at_, atI_nat (j := 0) (by rw [List.getElem?_map, era]; rfl), ra, _, _, _, rfl, rfl, SqL.of hrow, row_first, sz4, fun u nu => ?_⟩
          have su := same_new (o := .tup [.int t.2.1, .int (j : Int), .int ((j + k : Nat) : Int), .int ((ed ((TL.tl z).drop 0) (cutW (TL.tl t.2.2) j (j + k)) : Nat) : Int)]) nu
          have atF2 := su _ _ (s2 _ _ atF)
          have eRS : (R ++ [(u, row4 z t.2 j (j + k))]).map (·.2) = allR ((L.map (·.2)).take i) z ++ (List.range j).flatMap (rowsI z t.2) ++ (List.range (k + 1)).map fun k => row4 z t.2 j (j + k) := by
            rw [List.map_append, eR, List.range_succ, List.map_append, List.append_assoc]
            rfl
          have bg : (R ++ [(u, row4 z t.2 j (j + k))]).length ≤ 20000 := by
            rw [← List.length_map (f := fun x : Addr × Q4 => x.2), eRS]
            refine big i _ _ t ht ?_ (by rw [List.length_map, List.length_range]; omega)
            have := sum_le (f := rowsI z t.2) (m := 41) (l := List.range j) fun i _ => by unfold rowsI; rw [List.length_map, List.length_range]; omega
            rw [List.length_range] at this
            omega
          rw [List.length_append] at bg
          have bg : R.length + 1 ≤ 20000 := bg
          refine ⟨F, _, _, rfl, rfl, atF2, ?_, ?_⟩
          · rw [refs4_len]
            exact Nat.lt_of_lt_of_le (by omega : R.length < 20001) (by decide)
          refine ⟨R ++ [(u, row4 z t.2 j (j + k))], _, rfl, same_mut (sm.trans (s2.trans su)) nF, by rw [upd_same, refs4_app]; rfl, fun x m => ?_, eRS⟩
          refine but_tup (l := refs4 R) atF2 but_upd ?_
          rcases List.mem_append.mp m with m | m
          · exact same_tup (s2.trans su) (hR x m)
          · rw [List.mem_singleton.mp m]
            exact SqT.of upd_same
        · obtain ⟨R, y6, rfl, sm, atF, hR, eR⟩ := hW
          refine ⟨R, _, _, rfl, sm, atF, hR, ?_⟩
          rw [eR, flatR_range, ← List.append_assoc, show ((t.2.2.length : Int) + 1 - (j : Int)).toNat = t.2.2.length + 1 - j by omega]
          rfl
      · obtain ⟨R, y5, y6, rfl, sm, atF, hR, eR⟩ := hW
        rw [en] at eR
        refine ⟨R, _, _, _, _, rfl, sm, atF, hR, ?_⟩
        rw [eR]
        unfold allR
        rw [flatR_snoc (t := t.2) (by rw [List.getElem?_map, ht]; rfl)]
        rfl
    · obtain ⟨R, y3, y4, y5, y6, rfl, sm, atF, hR, eR⟩ := hW
      rw [rl, List.take_of_length_le (by rw [List.length_map]; exact Nat.le_refl _)] at eR
      exact ⟨_, rfl, q F R H' sm nF atF hR eR⟩
end

end SH
set_option Elab.async false
set_option linter.all false
set_option maxRecDepth 100000
set_option maxHeartbeats 4000000
namespace SH
open PySem PySem.Spec PyProof.Rows L2
section
variable {P : Program} {w : World} {K : PySem.W.Frag} {mg : Str → Option Value} {base : Heap} {ea : Ea}
theorem hs_ext {H H' : Hp} {a : Addr} {L : PL} (e : LamX.ExtN H H') (h : HsAt K H a L) : HsAt K H' a L := ⟨KeyL.sqL_ext h.1 e, fun q m => KeyL.sqT_ext (h.2 q m) e⟩
theorem ext_of {H H' : Hp} (s : Same H H') : LamX.ExtN H H' := LamX.ExtN.of fun b o h => s b o h
def spLaw (K : PySem.W.Frag) (PT : Addr) : Sp := fun vs H Q _ => ∃ (a : Addr) (ns : List Int), vs = [.ref a] ∧ SqL K H a (ns.map V.int) ∧ ns.length ≤ 63 ∧ LamX.Tabs (TbP PT) H ∧ ∀ H', Q (.bl true) H'
theorem sc_law : FnScope ["script", "draws", "house", "word", "text", "start", "kept", "rows", "most", "told", "due", "best", "row"] ["script"] (defScope s_law) := ⟨rfl, rfl, rfl, by decide +kernel, rfl, by decide +kernel, by decide +kernel⟩
theorem ok_law (T : Txt K mg ea) {PT : Addr} {f : Addr} {fd : FuncData} (F0 : Fun K "law" "law" s_law f fd) (c__law_draws : Cl P w K mg base 1 "_law_draws" (spDraws K)) (c__law_at : Cl P w K mg base 1 "_law_at" (spDraw K)) (c__law_word : Cl P w K mg base 2 "_law_word" (spWord3 K)) (c__law_near : Cl P w K mg base 2 "_law_near" (spNear K))
    (c__law_house : Cl P w K mg base 3 "_law_house" (spHouse35 K)) (c__law_all : Cl P w K mg base 2 "_law_all" (spAll35 K)) (c__law_great : Cl P w K mg base 5 "_law_great" (spGreat35 K)) (c__law_refused : Cl P w K mg base 5 "_law_refused" (spRef35 K)) (c_near_places : ClX P w K mg base 4 "near_places" (spNearP K ea)) (c_nearest : Cl P w K mg base 4 "nearest" (spNst K PT)) :
    FnOk P w K mg base CX0 8 f fd ["script"] (spLaw K PT) := by
  have nd := sc_law.nd
  refine F0.ok sc_law (fun vs H Q E h => ?_) (fun cdv A outer s H vs Q E hr h => ?_)
  · obtain ⟨a, ns, rfl, _⟩ := h
    rfl
  · obtain ⟨a, ns, rfl, hS, hl, hT, q⟩ := h
    refine ⟨_, (pss_cons (ps_set (i := 1) nd rfl (.inl rfl) (C8.pe_c c__law_draws hr (by decide) (by rfl) (pa_cons (pv 0) pa_nil)))
      (pss_cons (ps_if (pt_cmpR op_eq (C8.pe_c c__law_at hr (by decide) (by rfl) (pa_cons (pv 1) (pa_cons pe_int (pa_cons pe_int pa_nil)))) pe_int (nomark _))
        (pss_one (ps_ret (C8.pe_c c__law_great hr (by decide) (by rfl) (pa_cons (pv 1) pa_nil))))
        pss_nil)
      (pss_cons (ps_set (i := 2) nd rfl (.inl rfl) (C8.pe_c c__law_house hr (by decide) (by rfl) (pa_cons (pv 1) (pa_cons pe_int pa_nil))))
      (pss_cons (ps_set (i := 3) nd rfl (.inl rfl) (C8.pe_c c__law_word hr (by decide) (by rfl) (pa_cons (pv 1) (pa_cons pe_int (pa_cons pe_int pa_nil)))))
      (C8.pss_cut (ps_if (PW.pt (pw_and (pt_cmpR (op_neDK (K := K) hr.units) (pv 2) (pe_lst pa_nil) (nomark _)) (pw_and1 (pt_cmpR op_gt (C8.pe_c c__law_at hr (by decide) (by rfl) (pa_cons (pv 1) (pa_cons pe_int (pa_cons pe_int pa_nil)))) pe_int (nomark _)))))
        (pss_cons (ps_set (i := 4) nd rfl (.inl rfl) (pe_ix (ixt (K := K)) (pe_ix (ixl (K := K)) (pv 2) (C8.pe_c c__law_at hr (by decide) (by rfl) (pa_cons (pv 1) (pa_cons pe_int (pa_cons (pe_callB call_len_seq (by rfl) T.b_len PySem.boot_len (pa_cons (pv 2) pa_nil)) pa_nil)))) (fun _ _ => rfl)) pe_int (fun _ _ => rfl)))
          (pss_cons (ps_set (i := 5) nd rfl (.inl rfl) (C8.pe_c c__law_at hr (by decide) (by rfl) (pa_cons (pv 1) (pa_cons pe_int (pa_cons (pe_op op_add (pe_callB call_len_str (by rfl) T.b_len PySem.boot_len (pa_cons (pv 4) pa_nil)) pe_int) pa_nil)))))
          (pss_one (ps_set (i := 3) nd rfl (.inl rfl) (C8.pe_c c__law_near hr (by decide) (by rfl) (pa_cons (pv 1) (pa_cons pe_int (pa_cons (pe_slice sl_str (pv 4) (po_some (pv 5)) (po_some (pe_op op_add (pv 5) pe_int))) pa_nil))))))))
        pss_nil)
      (pss_cons (ps_set (i := 6) nd rfl (.inl rfl) (pe_callTy call_list_of (by rfl) T.b_list (by decide +kernel) (pa_cons (pv 2) pa_nil)))
      (pss_cons (ps_set (i := 7) nd rfl (.inl rfl) (C8.pe_c c__law_all hr (by decide) (by rfl) (pa_cons (pv 2) (pa_cons (pv 3) pa_nil))))
      (pss_cons (ps_for PassesOwn.never rfl (pi_range1 rfl T.b_range (pa_cons pe_int pa_nil)) (pg_name (i := 8) nd rfl (.inr rfl))
        (pss_cons (ps_set (i := 9) nd rfl (.inl rfl) (pe_cx c_near_places hr (by decide) (fun σ => passAt takes0 σ) (by rfl) (pa_cons (pv 2) (pa_cons (pv 3) (pa_cons (pv 8) pa_nil)))))
          (pss_cons (ps_setLc (i := 10) (own := [("row", 12)]) (g := (gName 12)) rfl nd rfl rfl (sw_true rfl rfl rfl (by decide +kernel)) (pi_listK (K := K) (pv 7)) (blkOk_by (own := [("row", 12)]) (N := ["script", "draws", "house", "word", "text", "start", "kept", "rows", "most", "told", "due", "best", "row"]) (sc := defScope s_law) (by decide +kernel)) (fun _ _ _ _ _ => (pg_name (i := 12) nd rfl (.inl rfl))) (fun _ _ _ _ _ => pts_one (pt_cmpR op_le (pe_ix (ixt (K := K)) (pv 12) pe_int (fun _ _ => rfl)) (pv 8) (nomark _))) (fun _ _ _ _ _ => (pv 12)))
          (pss_cons (ps_if (PW.pt (pw_or (pt_not (pt_val (pe_callB call_isi (by rfl) T.b_isinstance (by decide +kernel) (pa_cons (pv 9) (pa_cons (pe_bltn (v := .ty "list") (by rfl) T.b_list (by decide +kernel) rfl) pa_nil))))) (pw_or (pt_cmpR (op_neDK (K := K) hr.units) (pv 9) (pv 10) (nomark _)) (pw_or1 (pt_cmpR (op_neDK (K := K) hr.units) (pv 2) (pv 6) (nomark _))))))
            (pss_one (ps_ret pe_bl))
            pss_nil)
          (pss_cons (ps_expr (pe_bm PySem.F.plainAttrs_list PySem.F.slot_list_append PySem.F.type_list_append mt_append (pv 9) (pa_cons pe_int pa_nil)))
          (pss_one (ps_if (pt_cmpR (op_neDK (K := K) hr.units) (pe_cx c_near_places hr (by decide) (fun σ => passAt takes0 σ) (by rfl) (pa_cons (pv 2) (pa_cons (pv 3) (pa_cons (pv 8) pa_nil)))) (pv 10) (nomark _))
            (pss_one (ps_ret pe_bl))
            pss_nil)))))))
      (pss_cons (ps_set (i := 11) nd rfl (.inl rfl) pe_non)
      (pss_cons (ps_for PassesOwn.never rfl (pi_listK (K := K) (pv 7)) (pg_name (i := 12) nd rfl (.inl rfl))
        (pss_one (ps_if (PW.pt (pw_or (pt_cmpR op_isN (pv 11) pe_non (nomark _)) (pw_or1 (pt_cmpR op_lt (pe_ix (ixt (K := K)) (pv 12) pe_int (fun _ _ => rfl)) (pe_ix (ixt (K := K)) (pv 11) pe_int (fun _ _ => rfl)) (nomark _)))))
            (pss_one (ps_set (i := 11) nd rfl (.inl rfl) (pv 12)))
            pss_nil)))
      (pss_cons (ps_if (PW.pt (pw_or (pt_cmpR (op_neDK (K := K) hr.units) (C8.pe_c c_nearest hr (by decide) (by rfl) (pa_cons (pv 2) (pa_cons (pv 3) pa_nil))) (pv 11) (nomark _)) (pw_or1 (pt_cmpR (op_neDK (K := K) hr.units) (pv 2) (pv 6) (nomark _)))))
        (pss_one (ps_ret pe_bl))
        pss_nil)
      (pss_one (ps_ret (pe_and (C8.pe_c c__law_refused hr (by decide) (by rfl) (pa_cons (pv 2) (pa_cons (pv 3) (pa_cons (pe_op op_sub (pe_un un_neg pe_int) (C8.pe_c c__law_at hr (by decide) (by rfl) (pa_cons (pv 1) (pa_cons pe_int (pa_cons pe_int pa_nil))))) pa_nil)))) (pe_one (C8.pe_c c__law_refused hr (by decide) (by rfl) (pa_cons (pv 2) (pa_cons (pv 3) (pa_cons (pe_op op_add pe_int (C8.pe_c c__law_at hr (by decide) (by rfl) (pa_cons (pv 1) (pa_cons pe_int (pa_cons pe_int pa_nil))))) pa_nil))))))))))))))))))), ?_⟩
    have sz4 : 4 ≤ sizeLine := by decide
    refine ⟨_, rfl, a, ns, rfl, hS, hl, fun dr ds H1 s1 nd1 at1 hD => ?_⟩
    have dr1 : SqL K H1 dr (ds.map V.int) := SqL.of at1
    refine ⟨_, rfl, dr, ds, 57, 16, rfl, dr1, hD, by omega, by omega, by omega, fun g g0 g1 => ?_⟩
    refine ⟨rfl, _, rfl, ite2 (fun _ => ?_) (fun _ => ?_)⟩
    · exact ⟨_, rfl, dr, ds, rfl, dr1, hD, fun H' _ => q H'⟩
    refine ⟨_, rfl, dr, ds, 0, rfl, dr1, hD, by omega, by omega, fun hp L H2 s2 nh at2 hpr l3 hh => ?_⟩
    have hA2 : HsAt K H2 hp L := ⟨SqL.of at2, hpr⟩
    have dr2 := s2.seq dr1
    refine ⟨_, rfl, dr, ds, 44, 6, rfl, dr2, hD, by omega, by omega, by omega, fun w0 H3 s3 hw0 wl0 => ?_⟩
    have hA3 := hA2.same s3
    have dr3 := s3.seq dr2
    have lets := hh.letAll
    have hT3 := hT.ext (fun b o h => (s1.trans (s2.trans s3)) b o h)
    have asc := hh.asc
    have tx : ∀ x ∈ L, IsLet x.2.2 ∧ x.2.2.length ≤ 7 := fun x m => hh.txt x.2 (List.mem_map_of_mem m)
    have t40 : ∀ x ∈ L, x.2.2.length ≤ 40 := fun x m => Nat.le_trans (tx x m).2 (by decide)
    have l8 : L.length ≤ 8 := by omega
    have rl := refs_len L
    refine ⟨fun σ H' => ∃ (z : Str) (y4 y5 : Option V), σ = [some (.ref a), some (.ref dr), some (.ref hp), some (.str z), y4, y5, none, none, none, none, none, none, none] ∧ Same H3 H' ∧ z.length ≤ 20, ?_, ?_⟩
    · refine ⟨_, rfl, Nat.zero_le _, fun e ne => ?_⟩
      have se := same_new (o := .lst []) ne
      have ate : (upd H3 e (.lst [])) e = some (.lst []) := upd_same
      generalize upd H3 e (.lst []) = H4 at se ate ⊢
      refine ⟨_, _, dp_house (hA3.same se), .lst (SqL.of ate) .nil, dH_shaped lets, by decide, ?_⟩
      by_cases c : L = []
      · have : PyData.eqv (dH (L.map (·.2))) (.list []) = true := by rw [c]; decide
        rw [this]
        exact ⟨_, rfl, iteF ⟨w0, _, _, rfl, se, by omega⟩⟩
      · have : PyData.eqv (dH (L.map (·.2))) (.list []) = false := by
          cases L with
          | nil => exact absurd rfl c
          | cons x r => unfold dH; simp [PyData.eqv, PyData.eqvAll]
        rw [this]
        refine ⟨_, rfl, iteT ?_⟩
        have lp : 0 < L.length := List.length_pos_iff.mpr c
        refine ⟨_, rfl, dr, ds, 56, 3, rfl, se.seq dr3, hD, by omega, by omega, by omega, fun g2 g20 g21 => ?_⟩
        refine ⟨_, _, rfl, rfl, _, rfl, ite2 (fun _ => ?_) (fun _ => ⟨w0, _, _, rfl, se, by omega⟩)⟩
        have hA4 := hA3.same se
        have dr4 := se.seq dr3
        refine ⟨_, rfl, _, rfl, _, rfl, hp, _, rfl, .inl hA4.1, dr, ds, 57, ((refs L).length : Int), rfl, dr4, hD, by omega, by omega, by omega, fun k k0 k1 => ?_⟩
        rw [rl] at k1
        obtain ⟨t, ht, tm⟩ := at_map (fun q : Addr × Int × Str => V.ref q.1) (xs := L) (i := k) k0 k1
        have tl := (tx t tm).2
        have ts : t.2.2.length ≤ sizeLine := Nat.le_trans (by omega : t.2.2.length ≤ 1000) (by decide)
        refine ⟨hp, _, _, _, rfl, rfl, hA4.1, ht, t.1, _, _, _, rfl, rfl, hA4.2 t tm, (rfl : atI [V.int t.2.1, V.str t.2.2] 1 = some (.str t.2.2)), ?_⟩
        refine ⟨_, rfl, _, rfl, t.2.2, rfl, ts, _, _, rfl, rfl, dr, ds, 58, (t.2.2.length : Int) + 1, rfl, dr4, hD, by omega, by omega, by omega, fun s s0 s1' => ?_⟩
        have cl := cutS_length t.2.2 (some s) (some (s + 6))
        refine ⟨_, rfl, _, rfl, _, rfl, s, rfl, _, rfl, _, _, rfl, rfl, s + 6, rfl, t.2.2, rfl, ts, dr, ds, 47, cutS t.2.2 (some s) (some (s + 6)), rfl, dr4, hD, by omega, by omega, cut_let (tx t tm).1 _ _, by omega, fun wd H5 s5 hw wl => ?_⟩
        exact ⟨wd, _, _, rfl, se.trans s5, by omega⟩
    · rintro σ H4 ⟨z, y4, y5, rfl, s4, zl⟩
      have hA4 := hA3.same s4
      have hT4 := hT3.ext (fun b o h => s4 b o h)
      have dr4 := s4.seq dr3
      refine ⟨_, rfl, hp, _, rfl, .inl hA4.1, fun kp nkp => ?_⟩
      have sk := same_new (o := .lst (refs L)) nkp
      have atk : (upd H4 kp (.lst (refs L))) kp = some (.lst (refs L)) := upd_same
      generalize upd H4 kp (.lst (refs L)) = H5 at sk atk ⊢
      have hA5 := hA4.same sk
      refine ⟨_, rfl, _, rfl, hp, L, z, rfl, hA5, l8, t40, by omega, fun rp R H6 s6 nrp at6 hR eR => ?_⟩
      have hA6 := hA5.same s6
      have hK6 : HsAt K H6 kp L := ⟨SqL.of (s6 _ _ atk), hA6.2⟩
      have hT6 := hT4.ext (fun b o h => (sk.trans s6) b o h)
      have dr6 := (sk.trans s6).seq dr4
      have aln := allR_len (h := L.map (·.2)) (z := z) (by rw [List.length_map]; exact l8) (fun q hq => by
        obtain ⟨y, hy, rfl⟩ := List.mem_map.mp hq
        exact t40 y hy)
      have lnR := congrArg List.length eR
      rw [List.length_map] at lnR
      have dhs := dH_shaped lets
      have dhr := dH_refl lets
      refine ⟨4, rfl, by decide, by decide, ?_⟩
      refine for_range (lo := 0) (n := 4) (fun i σ H' => ∃ (y8 y9 y10 y11 y12 : Option V), σ = [some (.ref a), some (.ref dr), some (.ref hp), some (.str z), y4, y5, some (.ref kp), some (.ref rp), y8, y9, y10, y11, y12] ∧ Same H6 H')
        ⟨_, _, _, _, _, rfl, Same.refl _⟩ (fun i σ H7 hi hW => ?_) (fun σ H7 hW => ?_)
      · obtain ⟨y8, y9, y10, y11, y12, rfl, s7⟩ := hW
        have e0 : (0 : Int) + (i : Int) = (i : Int) := Int.zero_add _
        simp only [e0]
        have smi : Small (i : Int) := small_of (by omega) (by omega)
        refine ⟨_, rfl, _, rfl, _, rfl, hp, L, z, (i : Int), rfl, hA6.same s7, l8, t40, asc, by omega, smi, fun bad => absurd ⟨by omega, by omega⟩ bad, fun _ _ tl R1 H8 s8 ntl at8 hR1 eR1 => ?_⟩
        have s78 := s7.trans s8
        refine ⟨_, rfl, rp, rfl, ⟨_, SqL.of (s78 _ _ at6)⟩, fun D nD => ?_⟩
        refine lc_w (walk_list (xs := refs4 R)) nD (by rw [refs4_len]; omega) (fun H' e => SqL.of (e _ _ (s78 _ _ at6))) (fun i' acc _ => acc = refs4 ((R.take i').filter fun r => decide (r.2.2.2.2 ≤ (i : Int)))) (fun _ _ => rfl) (fun _ _ _ _ _ _ _ r => r) (fun i H x H' y => by rw [y.1]; exact Same.refl _) (fun i' x acc Ha Hb Qn Qf hi sm y r at_ kn kf => ?_) (fun acc H9 s9 at9 _ r => ?_)
        · obtain ⟨rfl, hx⟩ := y
          obtain ⟨t, ht, tm, rfl⟩ := refs4_at hx
          subst r
          refine ⟨rfl, _, rfl, t.1, _, _, _, rfl, rfl, same_tup (s78.trans sm) (hR t tm), (rfl : atI (v4 t.2) 3 = some (.int t.2.2.2.2)), _, rfl, _, _, rfl, rfl, _, rfl, ?_⟩
          by_cases h : t.2.2.2.2 ≤ (i : Int)
          · rw [decide_eq_true h]
            exact iteT ⟨_, rfl, kn _ _ (Same.refl _) (by rw [flt_snoc (β := Unit) ht, if_pos (decide_eq_true h), refs4_app]; rfl)⟩
          · rw [decide_eq_false h]
            exact iteF (kf _ (Same.refl _) (by rw [flt_snoc (β := Unit) ht, if_neg (by rw [decide_eq_true_eq]; exact h), List.append_nil]))
        · rw [List.take_of_length_le (by rw [refs4_len]; exact Nat.le_refl _)] at r
          subst r
          have eD : (R.filter fun r => decide (r.2.2.2.2 ≤ (i : Int))).map (·.2) = nearR (L.map (·.2)) z (i : Int) := by
            unfold nearR
            rw [← eR, List.filter_map]
            rfl
          have hD9 : T4At K H9 (R.filter fun r => decide (r.2.2.2.2 ≤ (i : Int))) := fun r hr => same_tup (s78.trans s9) (hR r (List.mem_filter.mp hr).1)
          generalize (R.filter fun r => decide (r.2.2.2.2 ≤ (i : Int))) = RD at at9 eD hD9
          have s69 := s78.trans s9
          have at89 := s9 _ _ at8
          have hA9 := hA6.same s69
          refine ⟨_, rfl, _, _, _, _, true, rfl, .ty "list", .base (.lst at89), kit_ty (by decide +kernel), _, rfl, iteF ?_⟩
          refine ⟨_, rfl, _, rfl, _, _, dp_r4 (SqL.of at89) (hR1.same s9), dp_r4 (SqL.of at9) hD9, (dR4_eq _).1, (dR4_eq _).1, ?_⟩
          rw [eR1, eD, (dR4_eq _).2]
          refine ⟨_, rfl, iteF ?_⟩
          refine ⟨_, rfl, _, rfl, _, _, dp_house hA9, dp_house (hK6.same s69), dhs, dhs, ?_⟩
          rw [dhr]
          refine ⟨_, rfl, iteF ?_⟩
          have tD : D ≠ tl := fun e => by
            rw [e, at8] at nD
            cases nD
          refine ⟨_, rfl, .inl ⟨rfl, _, SqL.of at89⟩, tl, _, _, rfl, rfl, at89, ?_, ?_⟩
          · have := congrArg List.length eR1
            rw [List.length_map] at this
            have := List.length_filter_le (fun q : Q4 => decide (q.2.2.2 ≤ (i : Int))) (allR (L.map (·.2)) z)
            rw [refs4_len]
            unfold nearR at *
            exact Nat.lt_of_le_of_lt (by omega : R1.length ≤ 13448) (by decide)
          have ntl6 : H6 tl = none := s7.free ntl
          have sA : Same H6 (upd H9 tl (.lst (refs4 R1 ++ [.int 1]))) := same_mut s69 ntl6
          have atD : (upd H9 tl (.lst (refs4 R1 ++ [.int 1]))) D = some (.lst (refs4 RD)) := by rw [upd_ne tD]; exact at9
          have hDA : T4At K (upd H9 tl (.lst (refs4 R1 ++ [.int 1]))) RD := hD9.but at89 but_upd
          generalize upd H9 tl (.lst (refs4 R1 ++ [.int 1])) = HA at sA atD hDA ⊢
          refine ⟨_, rfl, _, rfl, _, rfl, hp, L, z, (i : Int), rfl, hA6.same sA, l8, t40, asc, by omega, smi, fun bad => absurd ⟨by omega, by omega⟩ bad, fun _ _ tl2 R2 HB sB ntl2 atB hR2 eR2 => ?_⟩
          refine ⟨_, rfl, _, _, dp_r4 (SqL.of atB) hR2, dp_r4 (SqL.of (sB _ _ atD)) (hDA.same sB), (dR4_eq _).1, (dR4_eq _).1, ?_⟩
          rw [eR2, eD, (dR4_eq _).2]
          exact ⟨_, rfl, iteF ⟨_, _, _, _, _, rfl, sA.trans sB⟩⟩
      · obtain ⟨y8, y9, y10, y11, y12, rfl, s7⟩ := hW
        refine ⟨_, rfl, rp, rfl, ⟨_, SqL.of (s7 _ _ at6)⟩, ?_⟩
        refine for_it (walk_list (K := K) (a := rp) (xs := refs4 R)) (fun i σ H' => ∃ (v : V) (y12 : Option V), σ = [some (.ref a), some (.ref dr), some (.ref hp), some (.str z), y4, y5, some (.ref kp), some (.ref rp), y8, y9, y10, some v, y12] ∧ Same H6 H' ∧ BestAt K H' v (leastQ ((allR (L.map (·.2)) z).take i)))
          ⟨.non, _, rfl, s7, rfl⟩ (fun i σ H' _ hW => ?_) (fun i x σ Ha Hb hi hW y => ?_) (fun σ H8 hW => ?_)
        · obtain ⟨_, _, _, sm, _⟩ := hW
          exact SqL.of (sm _ _ at6)
        · obtain ⟨v, y12, rfl, sm, hv⟩ := hW
          obtain ⟨rfl, hx⟩ := y
          obtain ⟨t, ht, tm, rfl⟩ := refs4_at hx
          have hq : (allR (L.map (·.2)) z)[i]? = some t.2 := by rw [← eR, List.getElem?_map, ht]; rfl
          have sn := leastQ_snoc hq
          have tt := same_tup sm (hR t tm)
          cases eo : leastQ ((allR (L.map (·.2)) z).take i) with
          | none =>
            rw [eo] at hv sn
            have hv : v = .non := hv
            subst hv
            refine ⟨_, rfl, rfl, _, rfl, iteT ?_⟩
            exact ⟨_, rfl, .ref t.1, _, rfl, sm, by rw [sn]; exact ⟨t.1, rfl, tt⟩⟩
          | some b =>
            rw [eo] at hv sn
            obtain ⟨tb, rfl, htb⟩ := hv
            refine ⟨_, rfl, rfl, _, rfl, iteF ?_⟩
            refine ⟨_, rfl, t.1, _, _, _, rfl, rfl, tt, (rfl : atI (v4 t.2) 3 = some (.int t.2.2.2.2)), _, rfl, tb, _, _, _, rfl, rfl, htb, (rfl : atI (v4 b) 3 = some (.int b.2.2.2)), _, _, rfl, rfl, _, rfl, ?_⟩
            unfold stepQ at sn
            by_cases c : t.2.2.2.2 < b.2.2.2
            · rw [decide_eq_true c]
              refine iteT ⟨_, rfl, .ref t.1, _, rfl, sm, ?_⟩
              rw [sn]
              simp only [if_pos c]
              exact ⟨t.1, rfl, tt⟩
            · rw [decide_eq_false c]
              refine iteF ⟨.ref tb, _, rfl, sm, ?_⟩
              rw [sn]
              simp only [if_neg c]
              exact ⟨tb, rfl, htb⟩
        · obtain ⟨v, y12, rfl, sm, hv⟩ := hW
          rw [List.take_of_length_le (by rw [refs4_len, lnR]; exact Nat.le_refl _)] at hv
          refine ⟨_, rfl, _, rfl, hp, L, z, rfl, hA6.same sm, l8, t40, asc, by omega, hT6.ext (fun b o h => sm b o h), fun H9 v9 e9 hv9 => ?_⟩
          have hA9 := hs_ext e9 (hA6.same sm)
          have hK9 := hs_ext e9 (hK6.same sm)
          have dr9 := KeyL.sqL_ext (sm.seq dr6) e9
          have ob := okd_sh (okd_B (leastQ (allR (L.map (·.2)) z)))
          refine ⟨_, rfl, _, _, hv9.dp, (hv.ext e9).dp, ob.1, ob.1, ?_⟩
          rw [ob.2]
          refine ⟨_, rfl, iteF ?_⟩
          refine ⟨_, rfl, _, rfl, _, _, dp_house hA9, dp_house hK9, dhs, dhs, ?_⟩
          rw [dhr]
          refine ⟨_, rfl, iteF ?_⟩
          refine ⟨_, rfl, _, rfl, _, rfl, _, rfl, dr, ds, 59, 9, rfl, dr9, hD, by omega, by omega, by omega, fun r1 r10 r11 => ⟨_, _, rfl, rfl, ?_⟩⟩
          refine ⟨hp, L, z, -1 - r1, rfl, hA9, l8, t40, asc, by omega, small_of (by omega) (by omega), by omega, fun HA sA => ?_⟩
          refine ⟨_, rfl, _, rfl, _, rfl, _, rfl, dr, ds, 59, 9, rfl, sA.seq dr9, hD, by omega, by omega, by omega, fun r2 r20 r21 => ⟨_, _, rfl, rfl, ?_⟩⟩
          refine ⟨hp, L, z, 4 + r2, rfl, hA9.same sA, l8, t40, asc, by omega, small_of (by omega) (by omega), by omega, fun HB sB => ?_⟩
          exact q HB
end

end SH
set_option Elab.async false
set_option linter.all false
set_option maxRecDepth 100000
set_option maxHeartbeats 4000000
namespace SH
open PySem PySem.Spec PyProof.Rows L2
theorem law_all {P : Program} {w : World} {K : PySem.W.Frag} {mg : Str → Option Value} {base : Heap} {ea : Ea} {f : Addr} {fd : FuncData} (T : Txt K mg ea) (F : Fun K "law" "law" s_law f fd) {fN c PT : Addr} {oc kV doc pm ct : Value} {od an : Option Addr} {osl : Array (Option Value)}
    (lk : K.lookup fN = some ⟨oc, od, .func (PySem.W.fnOf "nearest" "nearest" (defArgs s_nearest) (defBody s_nearest) (defScope s_nearest) .none kV doc pm an (.ref c) ct), osl⟩) (hcd : PySem.W.codeIn K (.ref c) "nearest" = true) (hm : mg "nearest" = some (.ref fN)) (kp : PySem.W.keepIn K (.ref fN) = true)
    (hb : Binds K (PySem.W.fnOf "nearest" "nearest" (defArgs s_nearest) (defBody s_nearest) (defScope s_nearest) .none kV doc pm an (.ref c) ct) ["house", "word"] []) (TB : LamX.TabB base mg c PT) : FnOk P w K mg base CX0 8 f fd ["script"] (spLaw K PT) :=
  have at_ := ok__law_at (P := P) (w := w) (base := base) T
  have word := ok__law_word T at_
  have near := ok__law_near T at_
  have dt := ok_distance_table T (ok__row_above (P := P) (w := w) (base := base) T)
  have pl := ok__places_with_distance T dt
  have np := ok_near_places T pl
  have nst := ok_nearest T pl lk hcd hm kp hb TB
  ok_law T F (ok__law_draws T) at_ word near (ok__law_house T at_ word) (ok__law_all T (ok__law_table T)) (ok__law_great T at_ near (ok__law_from T) np) (ok__law_refused T np) np nst
theorem all_mk {P : Program} {w : World} {K : PySem.W.Frag} {h : Heap} {mg : Str → Option Value} {fa : Addr} (X : K.In h) (G : h.Ns mainGlobals mg) (hfa : mg "law" = some (.ref fa))
    {cN PN : Addr} {ddN : Option Addr} {vsN : Array Value} {slN : Array (Option Value)} {fileN : Str} {tfN tgN ttN : Tok} {flN txN : Int} {inN : Bool}
    {t__MOST_CHANGES : Tok}
    {f_distance_table f__row_above f_near_places f_nearest f__places_with_distance f__law_draws f__law_at f__law_word f__law_near f__law_table f__law_house f__law_all f__law_from f__law_great f__law_refused f_law : Addr}
    {od_distance_table an_distance_table od__row_above an__row_above od_near_places an_near_places od_nearest an_nearest od__places_with_distance an__places_with_distance od__law_draws an__law_draws od__law_at an__law_at od__law_word an__law_word od__law_near an__law_near od__law_table an__law_table od__law_house an__law_house od__law_all an__law_all od__law_from an__law_from od__law_great an__law_great od__law_refused an__law_refused od_law an_law : Option Addr}
    {sl_distance_table sl__row_above sl_near_places sl_nearest sl__places_with_distance sl__law_draws sl__law_at sl__law_word sl__law_near sl__law_table sl__law_house sl__law_all sl__law_from sl__law_great sl__law_refused sl_law : Array (Option Value)}
    {oc_distance_table kV_distance_table dc_distance_table pm_distance_table cd_distance_table ct_distance_table oc__row_above kV__row_above dc__row_above pm__row_above cd__row_above ct__row_above oc_near_places kV_near_places dc_near_places pm_near_places cd_near_places ct_near_places oc_nearest kV_nearest dc_nearest pm_nearest ct_nearest oc__places_with_distance kV__places_with_distance dc__places_with_distance pm__places_with_distance cd__places_with_distance ct__places_with_distance oc__law_draws kV__law_draws dc__law_draws pm__law_draws cd__law_draws ct__law_draws oc__law_at kV__law_at dc__law_at pm__law_at cd__law_at ct__law_at oc__law_word kV__law_word dc__law_word pm__law_word cd__law_word ct__law_word oc__law_near kV__law_near dc__law_near pm__law_near cd__law_near ct__law_near oc__law_table kV__law_table dc__law_table pm__law_table cd__law_table ct__law_table oc__law_house kV__law_house dc__law_house pm__law_house cd__law_house ct__law_house oc__law_all kV__law_all dc__law_all pm__law_all cd__law_all ct__law_all oc__law_from kV__law_from dc__law_from pm__law_from cd__law_from ct__law_from oc__law_great kV__law_great dc__law_great pm__law_great cd__law_great ct__law_great oc__law_refused kV__law_refused dc__law_refused pm__law_refused cd__law_refused ct__law_refused oc_law kV_law dc_law pm_law cd_law ct_law : Value}
    {fI : Addr} {odI anI : Option Addr} {slI : Array (Option Value)} {ocI kVI dcI pmI cdI ctI : Value}
    {C_HouseError N_HouseError C_OutOfRange N_OutOfRange : Addr}
    {nm_HouseError q_HouseError : Str} {bs_HouseError : List Value} {sn_HouseError : List Str} {sub_HouseError : List Value} {ab_HouseError : Bool} {col_HouseError : Option Bool} {dd_HouseError : Option Addr} {m0_HouseError m1_HouseError m2_HouseError m3_HouseError m5_HouseError : Option Value}
    {nm_OutOfRange q_OutOfRange : Str} {bs_OutOfRange : List Value} {sn_OutOfRange : List Str} {sub_OutOfRange : List Value} {ab_OutOfRange : Bool} {col_OutOfRange : Option Bool} {dd_OutOfRange : Option Addr} {m0_OutOfRange m1_OutOfRange m2_OutOfRange m3_OutOfRange m5_OutOfRange : Option Value}
    (z_abs : PySem.W.nsIn K mainGlobals "abs" = some none)
    (z_bool : PySem.W.nsIn K mainGlobals "bool" = some none)
    (z_enumerate : PySem.W.nsIn K mainGlobals "enumerate" = some none)
    (z_int : PySem.W.nsIn K mainGlobals "int" = some none)
    (z_isinstance : PySem.W.nsIn K mainGlobals "isinstance" = some none)
    (z_len : PySem.W.nsIn K mainGlobals "len" = some none)
    (z_list : PySem.W.nsIn K mainGlobals "list" = some none)
    (z_min : PySem.W.nsIn K mainGlobals "min" = some none)
    (z_range : PySem.W.nsIn K mainGlobals "range" = some none)
    (z_sorted : PySem.W.nsIn K mainGlobals "sorted" = some none)
    (n__MOST_CHANGES : PySem.W.nsIn K mainGlobals "_MOST_CHANGES" = some (some (.int 3 t__MOST_CHANGES)))
    (a_distance_table : PySem.W.nsIn K mainGlobals "distance_table" = some (some (.ref f_distance_table)))
    (l_distance_table : K.lookup f_distance_table = some ⟨oc_distance_table, od_distance_table, .func (PySem.W.fnOf "distance_table" "distance_table" (defArgs s_distance_table) (defBody s_distance_table) (defScope s_distance_table) .none kV_distance_table dc_distance_table pm_distance_table an_distance_table cd_distance_table ct_distance_table), sl_distance_table⟩)
    (c_distance_table : PySem.W.codeIn K cd_distance_table "distance_table" = true)
    (k_distance_table : PySem.W.keepIn K (.ref f_distance_table) = true)
    (a__row_above : PySem.W.nsIn K mainGlobals "_row_above" = some (some (.ref f__row_above)))
    (l__row_above : K.lookup f__row_above = some ⟨oc__row_above, od__row_above, .func (PySem.W.fnOf "_row_above" "_row_above" (defArgs s__row_above) (defBody s__row_above) (defScope s__row_above) .none kV__row_above dc__row_above pm__row_above an__row_above cd__row_above ct__row_above), sl__row_above⟩)
    (c__row_above : PySem.W.codeIn K cd__row_above "_row_above" = true)
    (k__row_above : PySem.W.keepIn K (.ref f__row_above) = true)
    (a_near_places : PySem.W.nsIn K mainGlobals "near_places" = some (some (.ref f_near_places)))
    (l_near_places : K.lookup f_near_places = some ⟨oc_near_places, od_near_places, .func (PySem.W.fnOf "near_places" "near_places" (defArgs s_near_places) (defBody s_near_places) (defScope s_near_places) .none kV_near_places dc_near_places pm_near_places an_near_places cd_near_places ct_near_places), sl_near_places⟩)
    (c_near_places : PySem.W.codeIn K cd_near_places "near_places" = true)
    (k_near_places : PySem.W.keepIn K (.ref f_near_places) = true)
    (a_nearest : PySem.W.nsIn K mainGlobals "nearest" = some (some (.ref f_nearest)))
    (l_nearest : K.lookup f_nearest = some ⟨oc_nearest, od_nearest, .func (PySem.W.fnOf "nearest" "nearest" (defArgs s_nearest) (defBody s_nearest) (defScope s_nearest) .none kV_nearest dc_nearest pm_nearest an_nearest (.ref cN) ct_nearest), sl_nearest⟩)
    (c_nearest : PySem.W.codeIn K (.ref cN) "nearest" = true)
    (k_nearest : PySem.W.keepIn K (.ref f_nearest) = true)
    (a__places_with_distance : PySem.W.nsIn K mainGlobals "_places_with_distance" = some (some (.ref f__places_with_distance)))
    (l__places_with_distance : K.lookup f__places_with_distance = some ⟨oc__places_with_distance, od__places_with_distance, .func (PySem.W.fnOf "_places_with_distance" "_places_with_distance" (defArgs s__places_with_distance) (defBody s__places_with_distance) (defScope s__places_with_distance) .none kV__places_with_distance dc__places_with_distance pm__places_with_distance an__places_with_distance cd__places_with_distance ct__places_with_distance), sl__places_with_distance⟩)
    (c__places_with_distance : PySem.W.codeIn K cd__places_with_distance "_places_with_distance" = true)
    (k__places_with_distance : PySem.W.keepIn K (.ref f__places_with_distance) = true)
    (a__law_draws : PySem.W.nsIn K mainGlobals "_law_draws" = some (some (.ref f__law_draws)))
    (l__law_draws : K.lookup f__law_draws = some ⟨oc__law_draws, od__law_draws, .func (PySem.W.fnOf "_law_draws" "_law_draws" (defArgs s__law_draws) (defBody s__law_draws) (defScope s__law_draws) .none kV__law_draws dc__law_draws pm__law_draws an__law_draws cd__law_draws ct__law_draws), sl__law_draws⟩)
    (c__law_draws : PySem.W.codeIn K cd__law_draws "_law_draws" = true)
    (k__law_draws : PySem.W.keepIn K (.ref f__law_draws) = true)
    (a__law_at : PySem.W.nsIn K mainGlobals "_law_at" = some (some (.ref f__law_at)))
    (l__law_at : K.lookup f__law_at = some ⟨oc__law_at, od__law_at, .func (PySem.W.fnOf "_law_at" "_law_at" (defArgs s__law_at) (defBody s__law_at) (defScope s__law_at) .none kV__law_at dc__law_at pm__law_at an__law_at cd__law_at ct__law_at), sl__law_at⟩)
    (c__law_at : PySem.W.codeIn K cd__law_at "_law_at" = true)
    (k__law_at : PySem.W.keepIn K (.ref f__law_at) = true)
    (a__law_word : PySem.W.nsIn K mainGlobals "_law_word" = some (some (.ref f__law_word)))
    (l__law_word : K.lookup f__law_word = some ⟨oc__law_word, od__law_word, .func (PySem.W.fnOf "_law_word" "_law_word" (defArgs s__law_word) (defBody s__law_word) (defScope s__law_word) .none kV__law_word dc__law_word pm__law_word an__law_word cd__law_word ct__law_word), sl__law_word⟩)
    (c__law_word : PySem.W.codeIn K cd__law_word "_law_word" = true)
    (k__law_word : PySem.W.keepIn K (.ref f__law_word) = true)
    (a__law_near : PySem.W.nsIn K mainGlobals "_law_near" = some (some (.ref f__law_near)))
    (l__law_near : K.lookup f__law_near = some ⟨oc__law_near, od__law_near, .func (PySem.W.fnOf "_law_near" "_law_near" (defArgs s__law_near) (defBody s__law_near) (defScope s__law_near) .none kV__law_near dc__law_near pm__law_near an__law_near cd__law_near ct__law_near), sl__law_near⟩)
    (c__law_near : PySem.W.codeIn K cd__law_near "_law_near" = true)
    (k__law_near : PySem.W.keepIn K (.ref f__law_near) = true)
    (a__law_table : PySem.W.nsIn K mainGlobals "_law_table" = some (some (.ref f__law_table)))
    (l__law_table : K.lookup f__law_table = some ⟨oc__law_table, od__law_table, .func (PySem.W.fnOf "_law_table" "_law_table" (defArgs s__law_table) (defBody s__law_table) (defScope s__law_table) .none kV__law_table dc__law_table pm__law_table an__law_table cd__law_table ct__law_table), sl__law_table⟩)
    (c__law_table : PySem.W.codeIn K cd__law_table "_law_table" = true)
    (k__law_table : PySem.W.keepIn K (.ref f__law_table) = true)
    (a__law_house : PySem.W.nsIn K mainGlobals "_law_house" = some (some (.ref f__law_house)))
    (l__law_house : K.lookup f__law_house = some ⟨oc__law_house, od__law_house, .func (PySem.W.fnOf "_law_house" "_law_house" (defArgs s__law_house) (defBody s__law_house) (defScope s__law_house) .none kV__law_house dc__law_house pm__law_house an__law_house cd__law_house ct__law_house), sl__law_house⟩)
    (c__law_house : PySem.W.codeIn K cd__law_house "_law_house" = true)
    (k__law_house : PySem.W.keepIn K (.ref f__law_house) = true)
    (a__law_all : PySem.W.nsIn K mainGlobals "_law_all" = some (some (.ref f__law_all)))
    (l__law_all : K.lookup f__law_all = some ⟨oc__law_all, od__law_all, .func (PySem.W.fnOf "_law_all" "_law_all" (defArgs s__law_all) (defBody s__law_all) (defScope s__law_all) .none kV__law_all dc__law_all pm__law_all an__law_all cd__law_all ct__law_all), sl__law_all⟩)
    (c__law_all : PySem.W.codeIn K cd__law_all "_law_all" = true)
    (k__law_all : PySem.W.keepIn K (.ref f__law_all) = true)
    (a__law_from : PySem.W.nsIn K mainGlobals "_law_from" = some (some (.ref f__law_from)))
    (l__law_from : K.lookup f__law_from = some ⟨oc__law_from, od__law_from, .func (PySem.W.fnOf "_law_from" "_law_from" (defArgs s__law_from) (defBody s__law_from) (defScope s__law_from) .none kV__law_from dc__law_from pm__law_from an__law_from cd__law_from ct__law_from), sl__law_from⟩)
    (c__law_from : PySem.W.codeIn K cd__law_from "_law_from" = true)
    (k__law_from : PySem.W.keepIn K (.ref f__law_from) = true)
    (a__law_great : PySem.W.nsIn K mainGlobals "_law_great" = some (some (.ref f__law_great)))
    (l__law_great : K.lookup f__law_great = some ⟨oc__law_great, od__law_great, .func (PySem.W.fnOf "_law_great" "_law_great" (defArgs s__law_great) (defBody s__law_great) (defScope s__law_great) .none kV__law_great dc__law_great pm__law_great an__law_great cd__law_great ct__law_great), sl__law_great⟩)
    (c__law_great : PySem.W.codeIn K cd__law_great "_law_great" = true)
    (k__law_great : PySem.W.keepIn K (.ref f__law_great) = true)
    (a__law_refused : PySem.W.nsIn K mainGlobals "_law_refused" = some (some (.ref f__law_refused)))
    (l__law_refused : K.lookup f__law_refused = some ⟨oc__law_refused, od__law_refused, .func (PySem.W.fnOf "_law_refused" "_law_refused" (defArgs s__law_refused) (defBody s__law_refused) (defScope s__law_refused) .none kV__law_refused dc__law_refused pm__law_refused an__law_refused cd__law_refused ct__law_refused), sl__law_refused⟩)
    (c__law_refused : PySem.W.codeIn K cd__law_refused "_law_refused" = true)
    (k__law_refused : PySem.W.keepIn K (.ref f__law_refused) = true)
    (a_law : PySem.W.nsIn K mainGlobals "law" = some (some (.ref f_law)))
    (l_law : K.lookup f_law = some ⟨oc_law, od_law, .func (PySem.W.fnOf "law" "law" (defArgs s_law) (defBody s_law) (defScope s_law) .none kV_law dc_law pm_law an_law cd_law ct_law), sl_law⟩)
    (c_law : PySem.W.codeIn K cd_law "law" = true)
    (k_law : PySem.W.keepIn K (.ref f_law) = true)
    (xg_HouseError : PySem.W.nsIn K mainGlobals "HouseError" = some (some (.ref C_HouseError)))
    (xx_HouseError : K.lookup C_HouseError = some (excClassObj nm_HouseError q_HouseError C_HouseError N_HouseError bs_HouseError [.type "ValueError", .type "Exception", .type "BaseException", .type "object"] true sn_HouseError sub_HouseError ab_HouseError col_HouseError dd_HouseError m0_HouseError m1_HouseError m2_HouseError m3_HouseError m5_HouseError "ValueError.__new__"))
    (xs_HouseError : PySem.W.findIn K (.ref C_HouseError) "__setattr__" = some (some (.builtin "object.__setattr__")))
    (xga_HouseError : PySem.W.findIn K (.ref C_HouseError) "__getattribute__" = some (some (.builtin "BaseException.__getattribute__")))
    (xgg_HouseError : PySem.W.findIn K (.ref C_HouseError) "__getattr__" = some none)
    (xat_HouseError : PySem.W.findIn K (.ref C_HouseError) "at" = some none)
    (xi_HouseError : PySem.W.findIn K (.ref C_HouseError) "__init__" = some (some (.ref fI)))
    (xb_HouseError : PySem.W.subIn K (.ref C_HouseError) (.type "BaseException") = some true)
    (xt_HouseError : PySem.W.typeIn K (.ref C_HouseError) = some (.type "type"))
    (xh_HouseError : PySem.W.hasDictIn K C_HouseError = true)
    (xk_HouseError : PySem.W.keepIn K (.ref C_HouseError) = true)
    (xis_HouseError : PySem.W.isClsIn K C_HouseError = true)
    (xg_OutOfRange : PySem.W.nsIn K mainGlobals "OutOfRange" = some (some (.ref C_OutOfRange)))
    (xx_OutOfRange : K.lookup C_OutOfRange = some (excClassObj nm_OutOfRange q_OutOfRange C_OutOfRange N_OutOfRange bs_OutOfRange (.ref C_HouseError :: [.type "ValueError", .type "Exception", .type "BaseException", .type "object"]) true sn_OutOfRange sub_OutOfRange ab_OutOfRange col_OutOfRange dd_OutOfRange m0_OutOfRange m1_OutOfRange m2_OutOfRange m3_OutOfRange m5_OutOfRange "ValueError.__new__"))
    (xs_OutOfRange : PySem.W.findIn K (.ref C_OutOfRange) "__setattr__" = some (some (.builtin "object.__setattr__")))
    (xga_OutOfRange : PySem.W.findIn K (.ref C_OutOfRange) "__getattribute__" = some (some (.builtin "BaseException.__getattribute__")))
    (xgg_OutOfRange : PySem.W.findIn K (.ref C_OutOfRange) "__getattr__" = some none)
    (xat_OutOfRange : PySem.W.findIn K (.ref C_OutOfRange) "at" = some none)
    (xi_OutOfRange : PySem.W.findIn K (.ref C_OutOfRange) "__init__" = some (some (.ref fI)))
    (xb_OutOfRange : PySem.W.subIn K (.ref C_OutOfRange) (.type "BaseException") = some true)
    (xt_OutOfRange : PySem.W.typeIn K (.ref C_OutOfRange) = some (.type "type"))
    (xh_OutOfRange : PySem.W.hasDictIn K C_OutOfRange = true)
    (xk_OutOfRange : PySem.W.keepIn K (.ref C_OutOfRange) = true)
    (xis_OutOfRange : PySem.W.isClsIn K C_OutOfRange = true)
    (l_I : K.lookup fI = some ⟨ocI, odI, .func (PySem.W.fnOf "__init__" "HouseError.__init__" (defArgs s_init) (defBody s_init) (defScope s_init) .none kVI dcI pmI anI cdI ctI), slI⟩)
    (c_I : PySem.W.codeIn K cdI "HouseError.__init__" = true)
    (k_I : PySem.W.keepIn K (.ref fI) = true)
    (t_I : PySem.W.typeIn K (.ref fI) = some (.type "function"))
    (e_OutOfRange_OutOfRange : PySem.W.subIn K (.ref C_OutOfRange) (.ref C_OutOfRange) = some true)
    (tC : K.lookup cN = some ⟨.type "code", ddN, .fields vsN, slN⟩)
    (tV : vsN[11]? = some (.ref PN))
    (tG : vsN.getD 11 .none = .ref PN)
    (tH : vsN.getD 18 .none = .str fileN tfN)
    (tI : vsN.getD 7 .none = .int flN tgN)
    (tJ : vsN.getD 9 .none = .bool inN)
    (tK : vsN.getD 10 .none = .int txN ttN)
    (tP : K.lookup PN = none)
    (tT : h.get? PN = some { cls := .none, data := .fields #[] })
    : ∃ (fd : FuncData) (cs : List (Addr × Addr)) (sp : Sp), (∀ p ∈ cs, h.get? p.2 = some { cls := .none, data := .fields #[] }) ∧ (∀ p ∈ cs, K.lookup p.2 = none) ∧ (∀ p ∈ cs, PySem.W.CodeHd h p.1 p.2) ∧ (∀ (s : Shared) (u : Value), BindsTo s fd ⟨[u], []⟩ [("script", u)]) ∧
      (∀ (H : Hp) (a : Addr) (ns : List Int), ns.length ≤ 63 → (∀ z ∈ ns, Builtin.Int.intBits z ≤ 1048576) → (∀ p ∈ cs, H p.2 = some (.tbl #[])) → SqL K H a (ns.map V.int) → sp [.ref a] H (fun v _ => v = .bl true) fun _ _ _ => False) ∧
      ∀ base : Heap, K.In base → base.Ns mainGlobals mg → (∀ p ∈ cs, LamX.TabB base mg p.1 p.2) → FnOk P w K mg base CX0 8 fa fd ["script"] sp := by
  have e := hfa.symm.trans (PySem.W.mg_of X G a_law)
  cases e
  have T : Txt K mg ⟨fI, C_HouseError, C_OutOfRange⟩ := ⟨PySem.W.mg_none_of X G z_abs, PySem.W.mg_none_of X G z_bool, PySem.W.mg_none_of X G z_enumerate, PySem.W.mg_none_of X G z_int, PySem.W.mg_none_of X G z_isinstance, PySem.W.mg_none_of X G z_len, PySem.W.mg_none_of X G z_list, PySem.W.mg_none_of X G z_min, PySem.W.mg_none_of X G z_range, PySem.W.mg_none_of X G z_sorted, ⟨_, PySem.W.mg_of X G n__MOST_CHANGES⟩, ⟨_, _, fun_mk (st := s_distance_table) l_distance_table c_distance_table k_distance_table, PySem.W.mg_of X G a_distance_table, (fun_mk (st := s_distance_table) l_distance_table c_distance_table k_distance_table).binds (ps := ["one", "two"]) fun _ _ _ _ _ _ us hl => match us, hl with | [_, _], _ => rfl⟩, ⟨_, _, fun_mk (st := s__row_above) l__row_above c__row_above k__row_above, PySem.W.mg_of X G a__row_above, (fun_mk (st := s__row_above) l__row_above c__row_above k__row_above).binds (ps := ["below", "letter", "two"]) fun _ _ _ _ _ _ us hl => match us, hl with | [_, _, _], _ => rfl⟩, ⟨_, _, fun_mk (st := s_near_places) l_near_places c_near_places k_near_places, PySem.W.mg_of X G a_near_places, (fun_mk (st := s_near_places) l_near_places c_near_places k_near_places).binds (ps := ["house", "word", "most"]) fun _ _ _ _ _ _ us hl => match us, hl with | [_, _, _], _ => rfl⟩, ⟨_, _, fun_mk (st := s_nearest) l_nearest c_nearest k_nearest, PySem.W.mg_of X G a_nearest, (fun_mk (st := s_nearest) l_nearest c_nearest k_nearest).binds (ps := ["house", "word"]) fun _ _ _ _ _ _ us hl => match us, hl with | [_, _], _ => rfl⟩, ⟨_, _, fun_mk (st := s__places_with_distance) l__places_with_distance c__places_with_distance k__places_with_distance, PySem.W.mg_of X G a__places_with_distance, (fun_mk (st := s__places_with_distance) l__places_with_distance c__places_with_distance k__places_with_distance).binds (ps := ["house", "word"]) fun _ _ _ _ _ _ us hl => match us, hl with | [_, _], _ => rfl⟩, ⟨_, _, fun_mk (st := s__law_draws) l__law_draws c__law_draws k__law_draws, PySem.W.mg_of X G a__law_draws, (fun_mk (st := s__law_draws) l__law_draws c__law_draws k__law_draws).binds (ps := ["script"]) fun _ _ _ _ _ _ us hl => match us, hl with | [_], _ => rfl⟩, ⟨_, _, fun_mk (st := s__law_at) l__law_at c__law_at k__law_at, PySem.W.mg_of X G a__law_at, (fun_mk (st := s__law_at) l__law_at c__law_at k__law_at).binds (ps := ["draws", "k", "many"]) fun _ _ _ _ _ _ us hl => match us, hl with | [_, _, _], _ => rfl⟩, ⟨_, _, fun_mk (st := s__law_word) l__law_word c__law_word k__law_word, PySem.W.mg_of X G a__law_word, (fun_mk (st := s__law_word) l__law_word c__law_word k__law_word).binds (ps := ["draws", "first", "most"]) fun _ _ _ _ _ _ us hl => match us, hl with | [_, _, _], _ => rfl⟩, ⟨_, _, fun_mk (st := s__law_near) l__law_near c__law_near k__law_near, PySem.W.mg_of X G a__law_near, (fun_mk (st := s__law_near) l__law_near c__law_near k__law_near).binds (ps := ["draws", "first", "word"]) fun _ _ _ _ _ _ us hl => match us, hl with | [_, _, _], _ => rfl⟩, ⟨_, _, fun_mk (st := s__law_table) l__law_table c__law_table k__law_table, PySem.W.mg_of X G a__law_table, (fun_mk (st := s__law_table) l__law_table c__law_table k__law_table).binds (ps := ["one", "two"]) fun _ _ _ _ _ _ us hl => match us, hl with | [_, _], _ => rfl⟩, ⟨_, _, fun_mk (st := s__law_house) l__law_house c__law_house k__law_house, PySem.W.mg_of X G a__law_house, (fun_mk (st := s__law_house) l__law_house c__law_house k__law_house).binds (ps := ["draws", "first"]) fun _ _ _ _ _ _ us hl => match us, hl with | [_, _], _ => rfl⟩, ⟨_, _, fun_mk (st := s__law_all) l__law_all c__law_all k__law_all, PySem.W.mg_of X G a__law_all, (fun_mk (st := s__law_all) l__law_all c__law_all k__law_all).binds (ps := ["house", "word"]) fun _ _ _ _ _ _ us hl => match us, hl with | [_, _], _ => rfl⟩, ⟨_, _, fun_mk (st := s__law_from) l__law_from c__law_from k__law_from, PySem.W.mg_of X G a__law_from, (fun_mk (st := s__law_from) l__law_from c__law_from k__law_from).binds (ps := ["word", "text", "start"]) fun _ _ _ _ _ _ us hl => match us, hl with | [_, _, _], _ => rfl⟩, ⟨_, _, fun_mk (st := s__law_great) l__law_great c__law_great k__law_great, PySem.W.mg_of X G a__law_great, (fun_mk (st := s__law_great) l__law_great c__law_great k__law_great).binds (ps := ["draws"]) fun _ _ _ _ _ _ us hl => match us, hl with | [_], _ => rfl⟩, ⟨_, _, fun_mk (st := s__law_refused) l__law_refused c__law_refused k__law_refused, PySem.W.mg_of X G a__law_refused, (fun_mk (st := s__law_refused) l__law_refused c__law_refused k__law_refused).binds (ps := ["house", "word", "most"]) fun _ _ _ _ _ _ us hl => match us, hl with | [_, _, _], _ => rfl⟩, ⟨_, _, fun_mk (st := s_law) l_law c_law k_law, PySem.W.mg_of X G a_law, (fun_mk (st := s_law) l_law c_law k_law).binds (ps := ["script"]) fun _ _ _ _ _ _ us hl => match us, hl with | [_], _ => rfl⟩, ⟨_, fun_mk (st := s_init) l_I c_I k_I, (fun_mk (st := s_init) l_I c_I k_I).binds (ps := ["self", "at"]) (fun _ _ _ _ _ _ us hl => match us, hl with | [_, _], _ => rfl), t_I⟩, { g := PySem.W.mg_of X G xg_HouseError, o := ⟨⟨nm_HouseError, q_HouseError, N_HouseError, bs_HouseError, _, sn_HouseError, sub_HouseError, ab_HouseError, col_HouseError, dd_HouseError, m0_HouseError, m1_HouseError, m2_HouseError, m3_HouseError, m5_HouseError, xx_HouseError, by first | decide +kernel | rfl⟩, xs_HouseError, xb_HouseError, xt_HouseError, xk_HouseError⟩, i := xi_HouseError, no := xat_HouseError, f := ⟨xga_HouseError, xgg_HouseError, xb_HouseError, xh_HouseError⟩ }, { g := PySem.W.mg_of X G xg_OutOfRange, o := ⟨⟨nm_OutOfRange, q_OutOfRange, N_OutOfRange, bs_OutOfRange, _, sn_OutOfRange, sub_OutOfRange, ab_OutOfRange, col_OutOfRange, dd_OutOfRange, m0_OutOfRange, m1_OutOfRange, m2_OutOfRange, m3_OutOfRange, m5_OutOfRange, xx_OutOfRange, by first | decide +kernel | rfl⟩, xs_OutOfRange, xb_OutOfRange, xt_OutOfRange, xk_OutOfRange⟩, i := xi_OutOfRange, no := xat_OutOfRange, f := ⟨xga_OutOfRange, xgg_OutOfRange, xb_OutOfRange, xh_OutOfRange⟩ }, exm_of xb_OutOfRange xis_OutOfRange xt_OutOfRange e_OutOfRange_OutOfRange⟩
  have hm := PySem.W.mg_of X G a_nearest
  have hP := tT
  have ne : cN ≠ PN := fun e => by
    rw [e, tP] at tC
    cases tC
  refine ⟨PySem.W.fnOf "law" "law" (defArgs s_law) (defBody s_law) (defScope s_law) .none kV_law dc_law pm_law an_law cd_law ct_law, [(cN, PN)], spLaw K PN, fun p hp => ?_, fun p hp => ?_, fun p hp => ?_, fun s v => .of_eq rfl, fun H a ns hl _ hH hS => ⟨a, ns, rfl, hS, hl, fun p hp => ?_, fun _ => rfl⟩, fun base _ _ TB => ?_⟩
  · rw [List.mem_singleton.mp hp]; exact hP
  · rw [List.mem_singleton.mp hp]; exact tP
  · rw [List.mem_singleton.mp hp]
    exact ⟨_, vsN, fileN, tfN, flN, tgN, inN, txN, ttN, X _ _ tC, rfl, rfl, tV, tG, tH, tI, tJ, tK, ne⟩
  · rw [List.mem_singleton.mp hp]
    exact LamX.TabS.nil (hH _ (List.mem_singleton_self _))
  · exact law_all T (fun_mk (st := s_law) l_law c_law k_law) l_nearest c_nearest hm k_nearest ((fun_mk (st := s_nearest) l_nearest c_nearest k_nearest).binds (ps := ["house", "word"]) fun _ _ _ _ _ _ us hl => match us, hl with | [_, _], _ => rfl) (TB _ (List.mem_singleton_self _))
end SH
open PySem PySem.W PyProof.Rows
set_option maxHeartbeats 0 in
theorem PySem.Challenge.cw_suffixhouse_k35_near_places_holds : PySem.Challenge.rw_suffixhouse_k35_near_places.Holds := by
  w_on; o_law; k_head; (case hw => w_witness2)
  k_fill
  refine LamX.walk_ofTs (l := PySem.Challenge.rw_suffixhouse_k35_near_places) (n := 63) (k := 8) (x := "script") (CX := fun _ => L2.CX0) rfl (by decide) rfl ⟨rfl, by decide, by decide⟩ (fun w h Y => PySem.W.km_in_of Y) ?F (fun _ _ _ _ _ h => h)
  case F =>
    intro w mg fa h Y KX G hmg
    refine' SH.all_mk KX G hmg ?z_abs ?z_bool ?z_enumerate ?z_int ?z_isinstance ?z_len ?z_list ?z_min ?z_range ?z_sorted ?n__MOST_CHANGES ?a_distance_table ?l_distance_table ?c_distance_table ?k_distance_table ?a__row_above ?l__row_above ?c__row_above ?k__row_above ?a_near_places ?l_near_places ?c_near_places ?k_near_places ?a_nearest ?l_nearest ?c_nearest ?k_nearest ?a__places_with_distance ?l__places_with_distance ?c__places_with_distance ?k__places_with_distance ?a__law_draws ?l__law_draws ?c__law_draws ?k__law_draws ?a__law_at ?l__law_at ?c__law_at ?k__law_at ?a__law_word ?l__law_word ?c__law_word ?k__law_word ?a__law_near ?l__law_near ?c__law_near ?k__law_near ?a__law_table ?l__law_table ?c__law_table ?k__law_table ?a__law_house ?l__law_house ?c__law_house ?k__law_house ?a__law_all ?l__law_all ?c__law_all ?k__law_all ?a__law_from ?l__law_from ?c__law_from ?k__law_from ?a__law_great ?l__law_great ?c__law_great ?k__law_great ?a__law_refused ?l__law_refused ?c__law_refused ?k__law_refused ?a_law ?l_law ?c_law ?k_law ?xg_HouseError ?xx_HouseError ?xs_HouseError ?xga_HouseError ?xgg_HouseError ?xat_HouseError ?xi_HouseError ?xb_HouseError ?xt_HouseError ?xh_HouseError ?xk_HouseError ?xis_HouseError ?xg_OutOfRange ?xx_OutOfRange ?xs_OutOfRange ?xga_OutOfRange ?xgg_OutOfRange ?xat_OutOfRange ?xi_OutOfRange ?xb_OutOfRange ?xt_OutOfRange ?xh_OutOfRange ?xk_OutOfRange ?xis_OutOfRange ?l_I ?c_I ?k_I ?t_I ?e_OutOfRange_OutOfRange ?tC ?tV ?tG ?tH ?tI ?tJ ?tK ?tP ?tT
    (case z_abs => first | k_is | rfl)
    (case z_bool => first | k_is | rfl)
    (case z_enumerate => first | k_is | rfl)
    (case z_int => first | k_is | rfl)
    (case z_isinstance => first | k_is | rfl)
    (case z_len => first | k_is | rfl)
    (case z_list => first | k_is | rfl)
    (case z_min => first | k_is | rfl)
    (case z_range => first | k_is | rfl)
    (case z_sorted => first | k_is | rfl)
    (case n__MOST_CHANGES => first | k_is | rfl)
    (case a_distance_table => first | k_is | rfl)
    (case l_distance_table => first | k_is | rfl)
    (case c_distance_table => first | k_is | rfl)
    (case k_distance_table => first | k_is | rfl)
    (case a__row_above => first | k_is | rfl)
    (case l__row_above => first | k_is | rfl)
    (case c__row_above => first | k_is | rfl)
    (case k__row_above => first | k_is | rfl)
    (case a_near_places => first | k_is | rfl)
    (case l_near_places => first | k_is | rfl)
    (case c_near_places => first | k_is | rfl)
    (case k_near_places => first | k_is | rfl)
    (case a_nearest => first | k_is | rfl)
    (case l_nearest => first | k_is | rfl)
    (case c_nearest => first | k_is | rfl)
    (case k_nearest => first | k_is | rfl)
    (case a__places_with_distance => first | k_is | rfl)
    (case l__places_with_distance => first | k_is | rfl)
    (case c__places_with_distance => first | k_is | rfl)
    (case k__places_with_distance => first | k_is | rfl)
    (case a__law_draws => first | k_is | rfl)
    (case l__law_draws => first | k_is | rfl)
    (case c__law_draws => first | k_is | rfl)
    (case k__law_draws => first | k_is | rfl)
    (case a__law_at => first | k_is | rfl)
    (case l__law_at => first | k_is | rfl)
    (case c__law_at => first | k_is | rfl)
    (case k__law_at => first | k_is | rfl)
    (case a__law_word => first | k_is | rfl)
    (case l__law_word => first | k_is | rfl)
    (case c__law_word => first | k_is | rfl)
    (case k__law_word => first | k_is | rfl)
    (case a__law_near => first | k_is | rfl)
    (case l__law_near => first | k_is | rfl)
    (case c__law_near => first | k_is | rfl)
    (case k__law_near => first | k_is | rfl)
    (case a__law_table => first | k_is | rfl)
    (case l__law_table => first | k_is | rfl)
    (case c__law_table => first | k_is | rfl)
    (case k__law_table => first | k_is | rfl)
    (case a__law_house => first | k_is | rfl)
    (case l__law_house => first | k_is | rfl)
    (case c__law_house => first | k_is | rfl)
    (case k__law_house => first | k_is | rfl)
    (case a__law_all => first | k_is | rfl)
    (case l__law_all => first | k_is | rfl)
    (case c__law_all => first | k_is | rfl)
    (case k__law_all => first | k_is | rfl)
    (case a__law_from => first | k_is | rfl)
    (case l__law_from => first | k_is | rfl)
    (case c__law_from => first | k_is | rfl)
    (case k__law_from => first | k_is | rfl)
    (case a__law_great => first | k_is | rfl)
    (case l__law_great => first | k_is | rfl)
    (case c__law_great => first | k_is | rfl)
    (case k__law_great => first | k_is | rfl)
    (case a__law_refused => first | k_is | rfl)
    (case l__law_refused => first | k_is | rfl)
    (case c__law_refused => first | k_is | rfl)
    (case k__law_refused => first | k_is | rfl)
    (case a_law => first | k_is | rfl)
    (case l_law => first | k_is | rfl)
    (case c_law => first | k_is | rfl)
    (case k_law => first | k_is | rfl)
    (case xg_HouseError => first | k_is | rfl)
    (case xx_HouseError => first | k_is | rfl)
    (case xs_HouseError => first | k_is | rfl)
    (case xga_HouseError => first | k_is | rfl)
    (case xgg_HouseError => first | k_is | rfl)
    (case xat_HouseError => first | k_is | rfl)
    (case xi_HouseError => first | k_is | rfl)
    (case xb_HouseError => first | k_is | rfl)
    (case xt_HouseError => first | k_is | rfl)
    (case xh_HouseError => first | k_is | rfl)
    (case xk_HouseError => first | k_is | rfl)
    (case xis_HouseError => first | k_is | rfl)
    (case xg_OutOfRange => first | k_is | rfl)
    (case xx_OutOfRange => first | k_is | rfl)
    (case xs_OutOfRange => first | k_is | rfl)
    (case xga_OutOfRange => first | k_is | rfl)
    (case xgg_OutOfRange => first | k_is | rfl)
    (case xat_OutOfRange => first | k_is | rfl)
    (case xi_OutOfRange => first | k_is | rfl)
    (case xb_OutOfRange => first | k_is | rfl)
    (case xt_OutOfRange => first | k_is | rfl)
    (case xh_OutOfRange => first | k_is | rfl)
    (case xk_OutOfRange => first | k_is | rfl)
    (case xis_OutOfRange => first | k_is | rfl)
    (case l_I => first | k_is | rfl)
    (case c_I => first | k_is | rfl)
    (case k_I => first | k_is | rfl)
    (case t_I => first | k_is | rfl)
    (case e_OutOfRange_OutOfRange => first | k_is | rfl)
    (case tC => first | k_is | rfl | decide +kernel)
    (case tV => first | k_is | rfl | decide +kernel)
    (case tG => first | k_is | rfl | decide +kernel)
    (case tH => first | k_is | rfl | decide +kernel)
    (case tI => first | k_is | rfl | decide +kernel)
    (case tJ => first | k_is | rfl | decide +kernel)
    (case tK => first | k_is | rfl | decide +kernel)
    (case tP => first | k_is | rfl | decide +kernel)
    (case tT => exact PySem.W.km_tabs_of Y _ (by decide))
