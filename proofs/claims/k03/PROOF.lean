import PyProof.Rows.All
import Wide.All
import OpenK.AllK
import Wide.FinOn
import PyProof.EqAt
import PyProof.EqKinds
import PyProof.TupleCall
import HandS.ForMost
import HandS.Wide
import HandS.Codes
import HandS.TupLe
import HandS.Star
import HandS.StrMore
import HandS.FStr
import HandS.Evl
import HandS.Exc
import HandS.TryMany
import HandS.ExcInit
import HandS.ExcField
import HandS.WideBits
import HandS.WordsExc
import HandS.Walk
import HandS.SortRule
import KE.SortData
import HandS.Set
import HandS.SetBool
import HandS.SetKeys
import HandS.SortKw
import KE.SortKeyHeap
import HandS.Comp
import HandS.Dict
import PyProof.StrWalks
import HandS.Strs
import PyProof.StrLawsIn
import KE.GoesEnum
import PyProof.StrLaws
import KE.KSortTupAny
import HandS.More
import HandS.Ends
import PyProof.ReprRoads
import PyProof.ReprLen
import HandS.DictComp
import HandS.Flow
import HandS.DictTup
import PyProof.DictMoreH
import KE.KDictCopyH
import KE.KEqDict
import KE.KeyNested
import KE.KDictKeyed
import HandS.IsInst
import HandS.Conv
import PySem.Challenge.RW_suffixhouse_k03_classes_of_stretches
set_option Elab.async false
set_option linter.all false
set_option maxRecDepth 100000
set_option maxHeartbeats 4000000
namespace SH
open PySem PySem.Spec PyProof.Rows L2
section
variable {P : Program} {w : World} {K : PySem.W.Frag} {mg : Str → Option Value} {base : Heap}
/-- a def of the top as it stands: its text, its name's value, how it binds -/
structure Dd (K : PySem.W.Frag) (mg : Str → Option Value) (x : Str) (st : Stmt) (ps : List Str) : Prop where
  ex : ∃ (f : Addr) (fd : FuncData), Fun K x x st f fd ∧ mg x = some (.ref f) ∧ Binds K fd ps []
/-- a def that lets nothing out, callable by its name -/
abbrev Cl (P : Program) (w : World) (K : PySem.W.Frag) (mg : Str → Option Value) (base : Heap) (k : Nat) (x : Str) (sp : Sp) : Prop := C8.Cal P w K mg base k x sp []
/-- a def that may raise -/
structure ClX (P : Program) (w : World) (K : PySem.W.Frag) (mg : Str → Option Value) (base : Heap) (k : Nat) (x : Str) (sp : Sp) : Prop where
  ex : ∃ (f : Addr) (fd : FuncData) (ps : List Str), FnOk P w K mg base (L2.CX P w) k f fd ps sp ∧ mg x = some (.ref f) ∧ PySem.W.keepIn K (.ref f) = true ∧ Binds K fd ps []
theorem cl_of {x : Str} {st : Stmt} {ps N : List Str} {k : Nat} {sp : Sp} (D : Dd K mg x st ps) (S : FnScope N ps (defScope st)) (len : ∀ vs H Q E, sp vs H Q E → vs.length = ps.length)
    (hbody : ∀ (f : Addr) (cdv : Value) (A : Around) (outer : List Env) (s : Shared) (H : Hp) (vs : List V) (Q : VK) (E : XK), Room k (A.deeper (envOfC x (defScope st) s.heap.objs.size f cdv)) → sp vs H Q E →
      ∃ t, PSs (cxOf CX0 P w K mg base N x (defScope st) f cdv A outer s H E).nox (defBody st) t ∧ t { nx := fun _ H' => Q .non H', rt := Q } (start N vs) H) : Cl P w K mg base (k + 1) x sp := by
  obtain ⟨f, fd, F, hm, b⟩ := D.ex
  exact ⟨f, fd, ps, [], F.ok S len (fun cdv A outer s H vs Q E hr h => hbody f cdv A outer s H vs Q E hr h), hm, F.kp, b, .nil⟩
theorem clx_of {x : Str} {st : Stmt} {ps N : List Str} {k : Nat} {sp : Sp} (D : Dd K mg x st ps) (S : FnScope N ps (defScope st)) (len : ∀ vs H Q E, sp vs H Q E → vs.length = ps.length)
    (hbody : ∀ (f : Addr) (cdv : Value) (A : Around) (outer : List Env) (s : Shared) (H : Hp) (vs : List V) (Q : VK) (E : XK), Room k (A.deeper (envOfC x (defScope st) s.heap.objs.size f cdv)) → sp vs H Q E →
      ∃ t, PSs (cxOf (L2.CX P w) P w K mg base N x (defScope st) f cdv A outer s H E) (defBody st) t ∧ t { nx := fun _ H' => Q .non H', rt := Q } (start N vs) H) : ClX P w K mg base (k + 1) x sp := by
  obtain ⟨f, fd, F, hm, b⟩ := D.ex
  exact ⟨f, fd, ps, F.okX S len (fun cdv A outer s H vs Q E hr h => hbody f cdv A outer s H vs Q E hr h), hm, F.kp, b⟩
end
section
variable {X : Cx} {k j : Nat} {x : Str} {sp : Sp} {p pos : Pos} {e : Expr} {es : List Expr} {t : TA}
/-- f(e, ..) of a def that may raise, in a try's body or where it passes on -/
theorem pe_cx (c : ClX X.prog X.w X.K X.mg X.base k x sp) {E : L2.St → XK} (hr : Room j X.A) (hk : k ≤ j) (hx : ∀ σ, PassesAt (L2.CX X.prog X.w) X σ (E σ)) (hg : Gl X x) (ha : PA X (e :: es) t)
    (hdb : (x == ("__debug__" : Str)) = false := by decide) (he : starEach (e :: es) X.env = (false, eval e X.env) :: starEach es X.env := by rfl) (hpl : (backTo pos (starEach es X.env)).any (·.1) = false := by rfl) :
    PE X (.Call (.Name x p) (e :: es) [] pos) (tCallS sp E t) := by
  obtain ⟨f, fd, ps, F, hm, kp, b⟩ := c.ex
  exact pe_callS F (hr.mono hk) hg hm kp b hx ha hdb he hpl
end
theorem ixt {X : Cx} {K : PySem.W.Frag} (h : X.K = K := by rfl) : IxR X (rIxT K) := h ▸ ix_tup
theorem ixl {X : Cx} {K : PySem.W.Frag} (h : X.K = K := by rfl) : IxR X (rIxL K) := h ▸ ix_list
/-- a module's number -/
theorem pe_k {X : Cx} {x : Str} {pos : Pos} {v : Int} (h : ∃ t, X.mg x = some (.int v t)) (hg : Gl X x := by rfl) (hdb : (x == ("__debug__" : Str)) = false := by decide) : PE X (.Name x pos) (tC (.int v)) := by
  obtain ⟨t, h⟩ := h
  exact pe_glob hg h ⟨t, rfl⟩ hdb
/-! ### numbers drawn: a list of small numbers -/
def Dr (ns : List Int) : Prop := ns.length ≤ 4000 ∧ ∀ n ∈ ns, 0 ≤ n ∧ n < 65536
/-- r(draws, k, many): a number from 0 below many -/
def spDraw (K : PySem.W.Frag) : Sp := fun vs H Q _ => ∃ (a : Addr) (ns : List Int) (k many : Int), vs = [.ref a, .int k, .int many] ∧ SqL K H a (ns.map V.int) ∧ Dr ns ∧ 0 ≤ k ∧ k < 100000 ∧ 0 < many ∧ ∀ r : Int, 0 ≤ r → r < many → Q (.int r) H
theorem at_ints {ns : List Int} {i : Int} (h0 : 0 ≤ i) (h1 : i < ns.length) : ∃ z, atI (ns.map V.int) i = some (.int z) ∧ z ∈ ns := by
  obtain ⟨j, rfl⟩ : ∃ j : Nat, i = j := ⟨i.toNat, by omega⟩
  have hj : j < ns.length := by omega
  refine ⟨ns[j], ?_, List.getElem_mem hj⟩
  refine atI_nat ?_
  rw [List.getElem?_map, List.getElem?_eq_getElem hj]
  rfl
/-! ### heaps -/
theorem same_new {H : Hp} {p : Addr} {o : HO} (h : H p = none) : Same H (upd H p o) := fun b x e => by
  rw [upd_ne (ne_of_none e h)]
  exact e
theorem same_mut {H H' : Hp} {p : Addr} {o : HO} (e : Same H H') (h : H p = none) : Same H (upd H' p o) := fun b x hb => by
  rw [upd_ne (ne_of_none hb h)]
  exact e b x hb
theorem same_tup {K : PySem.W.Frag} {H H' : Hp} {a : Addr} {xs : List V} (e : Same H H') (h : SqT K H a xs) : SqT K H' a xs := by
  rcases h with (h | ⟨o, h⟩) | h
  · exact .inl (.inl (e _ _ h))
  · exact .inl (.inr ⟨o, e _ _ h⟩)
  · exact .inr h
/-! ### texts of letters -/
def okc (c : Nat) : Bool := decide (32 ≤ c) && (decide (c ≤ 126) && decide (c ≠ 37))
def IsLet (z : Str) : Prop := z.cps.toList.all okc = true
instance (z : Str) : Decidable (IsLet z) := inferInstanceAs (Decidable (_ = true))
theorem str_at {z : Str} {i : Int} (h0 : 0 ≤ i) (h1 : i < (z.cps.toList.length : Int)) : ∃ c, atI z.cps.toList i = some c ∧ c ∈ z.cps.toList := by
  obtain ⟨j, rfl⟩ : ∃ j : Nat, i = j := ⟨i.toNat, by omega⟩
  have hj : j < z.cps.toList.length := by omega
  exact ⟨z.cps.toList[j], atI_nat (List.getElem?_eq_getElem hj), List.getElem_mem hj⟩
theorem let_at {z : Str} {c : Nat} (h : IsLet z) (hc : c ∈ z.cps.toList) : IsLet ⟨#[c]⟩ := by
  have := List.all_eq_true.mp h c hc
  show ([c].all okc) = true
  simp [this]
theorem let_app {a b : Str} (ha : IsLet a) (hb : IsLet b) : IsLet (a ++ b) := by
  have e : (a ++ b).cps.toList = a.cps.toList ++ b.cps.toList := TL.tl_append a b
  show (a ++ b).cps.toList.all okc = true
  rw [e, List.all_append, Bool.and_eq_true]
  exact ⟨ha, hb⟩
theorem len_app (a b : Str) : (a ++ b).length = a.length + b.length := by
  have e : (a ++ b).cps.toList = a.cps.toList ++ b.cps.toList := TL.tl_append a b
  have e2 := congrArg List.length e
  rw [List.length_append] at e2
  simpa [Str.length] using e2
theorem at_map {α : Type} (f : α → V) {xs : List α} {i : Int} (h0 : 0 ≤ i) (h1 : i < xs.length) : ∃ x, atI (xs.map f) i = some (f x) ∧ x ∈ xs := by
  obtain ⟨j, rfl⟩ : ∃ j : Nat, i = j := ⟨i.toNat, by omega⟩
  have hj : j < xs.length := by omega
  refine ⟨xs[j], ?_, List.getElem_mem hj⟩
  refine atI_nat ?_
  rw [List.getElem?_map, List.getElem?_eq_getElem hj]
  rfl
theorem ixs_let {z : Str} {j : Int} {H : Hp} {Q : VK} (hz : IsLet z) (hl : z.length ≤ sizeLine) (h0 : 0 ≤ j) (h1 : j < (z.cps.toList.length : Int)) (h : ∀ c, okc c = true → Q (.str ⟨#[c]⟩) H) : rIxS (.str z) (.int j) H Q := by
  obtain ⟨c, hc, hm⟩ := str_at h0 h1
  exact ⟨z, j, c, rfl, rfl, hl, hc, h c (List.all_eq_true.mp hz c hm)⟩
theorem let_one {c : Nat} (h : okc c = true) : IsLet ⟨#[c]⟩ := by
  show ([c].all okc) = true
  simp [h]
/-! ### houses: pairs of a number and a text, each at its address -/
abbrev PL := List (Addr × Int × Str)
def refs (L : PL) : List V := L.map fun q => V.ref q.1
def PairsAt (K : PySem.W.Frag) (H : Hp) (L : PL) : Prop := ∀ q ∈ L, SqT K H q.1 [.int q.2.1, .str q.2.2]
def HsAt (K : PySem.W.Frag) (H : Hp) (a : Addr) (L : PL) : Prop := SqL K H a (refs L) ∧ PairsAt K H L
theorem PairsAt.same {K : PySem.W.Frag} {H H' : Hp} {L : PL} (e : Same H H') (h : PairsAt K H L) : PairsAt K H' L := fun q hq => same_tup e (h q hq)
theorem HsAt.same {K : PySem.W.Frag} {H H' : Hp} {a : Addr} {L : PL} (e : Same H H') (h : HsAt K H a L) : HsAt K H' a L := ⟨e.seq h.1, h.2.same e⟩
/-- numbers ascending from 0 to 99, texts of at most m letters -/
structure IsHs (m : Nat) (h : List (Int × Str)) : Prop where
  asc : (h.map (·.1)).Pairwise (· < ·)
  num : ∀ q ∈ h, 0 ≤ q.1 ∧ q.1 ≤ 99
  txt : ∀ q ∈ h, IsLet q.2 ∧ q.2.length ≤ m
/-- == of data, the frame said -/
theorem op_eqDK {X : Cx} {K : PySem.W.Frag} (hu : X.A.units + 64 < cLine) (h : X.K = K := by rfl) : OpR X (compareOp .Eq) (rEqD K) := h ▸ op_eqD hu
theorem op_neDK {X : Cx} {K : PySem.W.Frag} (hu : X.A.units + 64 < cLine) (h : X.K = K := by rfl) : OpR X (compareOp .NotEq) (rNeD K) := h ▸ op_neD hu
end SH
set_option Elab.async false
set_option linter.all false
set_option maxRecDepth 100000
set_option maxHeartbeats 4000000
/-! except clauses, any number, with and without a name -/
namespace SH
open PySem PySem.Spec PyProof.Rows L2
abbrev Suite := Addr → Value → Option Addr → TS
/-- behind a suite whose name is forgotten -/
def gone (i : Nat) (D : Ends) : Ends :=
  ⟨fun τ G => D.nx (τ.set i none) G, D.rt, fun τ G => D.bk (τ.set i none) G, fun τ G => D.ct (τ.set i none) G⟩
/-- how a suite is entered: with its name in slot i, or without one -/
def enter (o : Option Nat) (ts : Suite) (a : Addr) (c : Value) (d : Option Addr) (D : Ends) (τ : L2.St) (G : Hp) : Prop :=
  match o with
  | none => ts a c d D τ G
  | some i => ts a c d (gone i D) (τ.set i (some (.ref a))) G
/-- the clauses' wishes: the first that matches -/
def wHds (K : PySem.W.Frag) (Wo : WX) (D : Ends) : List (Value × Option Nat × Suite) → WX
  | [] => Wo
  | q :: r => fun c d τ G => ∃ b, PySem.W.exmOne K c q.1 = some b ∧ (b = true → ∀ a, G a = none → enter q.2.1 q.2.2 a c d D τ G) ∧ (b = false → wHds K Wo D r c d τ G)
/-- a suite's text does what ts says -/
def SuiteOk (X : Cx) (sts : List Stmt) (ts : Suite) : Prop :=
  ∀ (a : Addr) (o : Obj) (c : Value) (d : Option Addr) (l : List (Addr × Obj)), Zc c d o → (∃ f, o.data = .fields f) → PSs (X.suite a ((a, o) :: l)) sts (ts a c d)
inductive HdsN (X : Cx) : List ExceptHandler → List (Value × Option Nat × Suite) → Prop
  | nil : HdsN X [] []
  | cons {x : Str} {c : Value} {ts : Suite} {u : Stmt} {us : List Stmt} {p p' : Pos} {hs : List ExceptHandler} {l : List (Value × Option Nat × Suite)} :
      Names X x c → SuiteOk X (u :: us) ts → HdsN X hs l → HdsN X (.ExceptHandler (some (.Name x p)) none (u :: us) p' :: hs) ((c, none, ts) :: l)
  | named {x n : Str} {i : Nat} {c : Value} {ts : Suite} {u : Stmt} {us : List Stmt} {p p' : Pos} {hs : List ExceptHandler} {l : List (Value × Option Nat × Suite)} :
      Names X x c → X.N.Nodup → X.N[i]? = some n → X.env.kindOf n = some .local → SuiteOk X (u :: us) ts → HdsN X hs l → HdsN X (.ExceptHandler (some (.Name x p)) (some n) (u :: us) p' :: hs) ((c, some i, ts) :: l)
/-- an exception that has come down to this frame: at a, of the class c, with its dict d, over the ground B -/
structure Down (X : Cx) (pins : List (Addr × Obj)) (B : Heap) (a : Addr) (c : Value) (d : Option Addr) (τ : L2.St) (G : Hp) (s : Shared) : Prop where
  st : X.stack = X.env :: X.outer
  fr : X.env.frame = some X.env.locals
  fl : HandSPX.FlyingZ B (X.env :: X.outer) a (Zc c d) s.heap
  on : ∀ h, B.StaysIn h → s.heap.UpToSlots h → Inv X pins τ G { s with heap := h }
  ok : Inv X pins τ G s
  no : G a = none
  out : ∀ (h : Heap) (W : WX), HandSPX.HeldZ B (X.env :: X.outer) a (Zc c d) X.env.locals h → s.heap.UpToSlots h → W c d τ G → XE X W (.ref a) { s with heap := h }
section
variable {X : Cx} {pins : List (Addr × Obj)} {B : Heap} {a : Addr} {c : Value} {d : Option Addr} {τ : L2.St} {G : Hp} {s : Shared}
theorem Down.inner (Y : Down X pins B a c d τ G s) : ∃ o, s.heap.get? a = some o ∧ Zc c d o ∧ (∃ f, o.data = .fields f) ∧ Inv (X.suite a ((a, o) :: (X.pn ++ pins))) [] τ G s := by
  obtain ⟨o, f, ga, za, da⟩ := Y.fl.there
  have away : a ∉ frs (X.env :: X.outer) := by
    intro m
    obtain ⟨-, o', g', nf⟩ := Y.fl.2.2.1.mem m
    cases ga.symm.trans g'
    exact nf _ da
  refine ⟨o, ga, za, ⟨f, da⟩, Y.ok.suite ga da Y.no ?_ ?_⟩
  · intro z
    refine away (List.mem_filterMap.mpr ⟨X.env, List.mem_cons_self, ?_⟩)
    rw [Y.fr, z]
  · intro m
    obtain ⟨e, me, q⟩ := List.mem_filterMap.mp m
    exact away (List.mem_filterMap.mpr ⟨e, List.mem_cons_of_mem _ me, q⟩)
/-- the clause's name is asked, and whether the exception is of it -/
theorem Down.asked (Y : Down X pins B a c d τ G s) {x : Str} {p : Pos} {cl : Value} {b : Bool} (nm : Names X x cl) (hb : PySem.W.exmOne X.K c cl = some b) {Q : Bool → Shared → Prop} {E : Value → Shared → Prop} (q : Q b s) :
    wpAny (model X.prog X.w) (X.A.mark (some (.ref a))) (eval (.Name x p) X.env) (fun u s1 => wpAny (model X.prog X.w) (X.A.mark (some (.ref a))) (excMatches (.ref a) u) Q E s1) E s := by
  obtain ⟨o, ga, za, -, S⟩ := Y.inner
  have ty : PySem.W.Looks (model X.prog X.w) s.heap (typeOf (.ref a)) c := fun _ _ _ _ k z => wpAny_typeOf_ref (k _ _ ga) (by rw [za.1]; exact z)
  have mt := (PySem.W.exm_one (M := model X.prog X.w) Y.ok.kIn ty hb).here (A := X.A.mark (some (.ref a))) (Q := Q) (E := E) q
  obtain ⟨g, nd, hm | ⟨hm, hv, nn⟩⟩ := nm
  · exact ld_glob (X := X.suite a ((a, o) :: (X.pn ++ pins))) S g hm mt nd
  · exact ld_blt (X := X.suite a ((a, o) :: (X.pn ++ pins))) S g hm hv mt nn nd
/-- once more at the suite's beginning -/
theorem Down.again (Y : Down X pins B a c d τ G s) {h : Heap} (f : HandSPX.FlyingZ B (X.env :: X.outer) a (Zc c d) h) (u : s.heap.UpToSlots h) : Down X pins B a c d τ G { s with heap := h } :=
  ⟨Y.st, Y.fr, f, fun g k v => Y.on g k (u.trans v), Y.on h f.1 u, Y.no, fun g W k v w => Y.out g W k (u.trans v) w⟩
theorem Down.handle (Y : Down X pins B a c d τ G s) {D : Ends} {Wo : WX} (tk : Takes X Wo) {hs : List ExceptHandler} {l : List (Value × Option Nat × Suite)} (hk : HdsN X hs l) :
    wHds X.K Wo D l c d τ G → wpAny (model X.prog X.w) X.A (handleBy (.ref a) X.env hs) (SP X pins D) X.xe s := by
  induction hk with
  | nil =>
    intro wish
    refine wpAny_handleBy_nil ?_
    obtain ⟨-, -, -, o, f, T, -, -, go, -, dat, f1, -⟩ := id Y.fl
    unfold PySem.passOn
    refine wpAny_bind (wpAny_field go dat f1 ?_)
    rw [if_neg (by simp : ¬ ((Value.ref T == Value.none) = true))]
    have up : wpAny (model X.prog X.w) X.A (setFlight (.ref a) X.env.frame) (fun _ s4 => wpAny (model X.prog X.w) X.A (throw (.ref a) : Sem Flow) (SP X pins D) X.xe s4) X.xe s := by
      rw [Y.fr]
      exact HandSPX.setFlight_upZ Y.fl fun h held u => wpAny_throw (tk _ _ (Y.out h _ held u wish))
    first
      | exact wpAny_bind (wpAny_pure (wpAny_bind up))
      | exact wpAny_bind up
  | @cons x cl ts u us p p' hs l nm so r ih =>
    rintro ⟨b, hb, yes, no⟩
    refine wpAny_handleBy_cons (codeAny_handlers_test (Y.asked nm hb ?_)) (fun z => nomatch z)
    match b, yes, no with
    | false, _, no => exact ih (no rfl)
    | true, yes, _ =>
      refine codeAny_handlers_suite (HandSPX.lands_againZ Y.fl fun h f v => ?_)
      obtain ⟨o, -, zo, fo, S⟩ := (Y.again f v).inner
      refine wpAny_mono ((so a o c d (X.pn ++ pins) zo fo).run [] _ _ G _ S (yes rfl a Y.no)) ?_ (fun _ _ z => z.elim)
      intro g s6 hsp
      match g, hsp with
      | .next, ⟨τ6, G6, S6, z⟩ => exact ⟨τ6, G6, S6.unsuite Y.ok.ok, z⟩
      | .brk, ⟨τ6, G6, S6, z⟩ => exact ⟨τ6, G6, S6.unsuite Y.ok.ok, z⟩
      | .cont, ⟨τ6, G6, S6, z⟩ => exact ⟨τ6, G6, S6.unsuite Y.ok.ok, z⟩
      | .ret u, ⟨v6, τ6, G6, S6, r6, z⟩ => exact ⟨v6, τ6, G6, S6.unsuite Y.ok.ok, r6, z⟩
  | @named x n i cl ts u us p p' hs l nm hN hi ho so r ih =>
    rintro ⟨b, hb, yes, no⟩
    refine wpAny_handleBy_cons (codeAny_handlers_test (Y.asked nm hb ?_)) (fun z => nomatch z)
    match b, yes, no with
    | false, _, no => exact ih (no rfl)
    | true, yes, _ =>
      refine codeAny_handlers_suite_as (HandSPX.lands_againZ Y.fl fun h f v => ?_)
      obtain ⟨o, -, zo, fo, S⟩ := (Y.again f v).inner
      refine store_ok (X := X.suite a ((a, o) :: (X.pn ++ pins))) (v := .ref a) S hN hi (.inl ho) rfl (fun s5 S5 => ?_) (.inr ho)
      refine wpAny_mono ((so a o c d (X.pn ++ pins) zo fo).run [] s5 _ G _ S5 (yes rfl a Y.no)) ?_ (fun _ _ z => z.elim)
      intro g s6 hsp
      match g, hsp with
      | .next, ⟨τ6, G6, S6, z⟩ => exact gone_ok (S6.unsuite Y.ok.ok) hN hi ho fun s7 J => ⟨τ6.set i none, G6, J, z⟩
      | .brk, ⟨τ6, G6, S6, z⟩ => exact gone_ok (S6.unsuite Y.ok.ok) hN hi ho fun s7 J => ⟨τ6.set i none, G6, J, z⟩
      | .cont, ⟨τ6, G6, S6, z⟩ => exact gone_ok (S6.unsuite Y.ok.ok) hN hi ho fun s7 J => ⟨τ6.set i none, G6, J, z⟩
      | .ret u, ⟨v6, τ6, G6, S6, r6, z⟩ => exact gone_ok (S6.unsuite Y.ok.ok) hN hi ho fun s7 J => ⟨v6, τ6.set i none, G6, J, r6, z⟩
end
/-- try: body, any clauses -/
theorem ps_try_hds {X : Cx} {body : List Stmt} {h₀ : ExceptHandler} {hs : List ExceptHandler} {l : List (Value × Option Nat × Suite)} {pos : Pos} {tb : WX → TS} {Wo : WX}
    (st : X.stack = X.env :: X.outer) (fr : X.env.frame = some X.env.locals) (tk : Takes X Wo)
    (bo : ∀ (W : WX) (pn : List (Addr × Obj)) (xe : Value → Shared → Prop), Takes (X.tr pn xe) W → PassesOwn (model X.prog X.w) X.A X.env xe → PSs (X.tr pn xe) body (tb W))
    (hk : HdsN X (h₀ :: hs) l) : PS X (.Try body (h₀ :: hs) [] [] pos) (fun D τ G => tb (wHds X.K Wo D l) D τ G) := by
  constructor
  intro pins s τ G D I q
  have ok := I.ok
  refine wpAny_Try_except (wpAny_mono ((bo (wHds X.K Wo D l) (X.pn ++ pins) _ ?_ PassesOwn.looking).run [] s τ G D (I.toTry _) q) (fun f s1 r => ?_) (fun e s1 r => r))
  · rintro u s2 ⟨a, B, sI, pins', τ2, G2, c, d, rfl, J', nb, up, sky, na, os, ag, wish⟩
    have J := J'.ofTry ok
    have sky2 : Sky B (X.env :: X.outer) a (Zc c d) X.env.locals s2.heap := st ▸ sky
    refine Sky.land Zc.steady (by rw [ok.frames, st]) fr sky2 (fun h f v => ?_)
    refine Down.handle (B := B) (a := a) (c := c) (d := d) (τ := τ2) (G := G2) (s := { s2 with heap := h }) ⟨st, fr, f, fun g k z => J.landed nb k ((up.trans v).trans z) os ag, J.landed nb f.1 (up.trans v) os ag, na, fun g W k z w => ?_⟩ tk hk wish
    exact ⟨a, B, sI, pins, τ2, G2, c, d, rfl, J, nb, (up.trans v).trans z, .inr (.inr (by rw [st]; exact k)), na, os, ag, w⟩
  · match f, r with
    | .next, ⟨τ2, G2, J, z⟩ => exact wpAny_execs_nil ⟨τ2, G2, J.ofTry ok, z⟩
    | .brk, ⟨τ2, G2, J, z⟩ => exact ⟨τ2, G2, J.ofTry ok, z⟩
    | .cont, ⟨τ2, G2, J, z⟩ => exact ⟨τ2, G2, J.ofTry ok, z⟩
    | .ret u, ⟨v, τ2, G2, J, r2, z⟩ => exact ⟨v, τ2, G2, J.ofTry ok, r2, z⟩
end SH
set_option Elab.async false
set_option linter.all false
set_option maxRecDepth 100000
set_option maxHeartbeats 4000000
/-! errors with a number: made by the base's __init__, raised, caught, asked for their number -/
namespace SH
open PySem PySem.Spec PyProof.Rows L2
/-- numbers that an error is made with here -/
def Small (n : Int) : Prop := n.natAbs < 2 ^ 200
theorem small_bits {n : Int} (h : Small n) : decide ((1000 : Int) < ((Builtin.Int.intBits n : Nat) : Int)) = false := by
  have a := PySem.Flt.log2_lt_of (by decide : 0 < 200) h
  have b : Builtin.Int.intBits n ≤ n.natAbs.log2 + 1 := by
    unfold Builtin.Int.intBits
    split <;> omega
  refine decide_eq_false ?_
  omega
theorem small_of {n : Int} (h0 : -1000000 ≤ n) (h1 : n ≤ 1000000) : Small n := Nat.lt_of_le_of_lt (by omega : n.natAbs ≤ 1000000) (by decide)
/-- __init__(self, at) at a new exception: its dict gets the number -/
def spInitAt (K : PySem.W.Frag) : Sp := fun vs H Q _ => ∃ (a C : Addr) (n : Int), vs = [.ref a, .int n] ∧ OexC K C ∧ PySem.W.findIn K (.ref C) "at" = some none ∧ Small n ∧ H a = some (exo a C none) ∧
  ∀ dx : Addr, H dx = none → dx ≠ a → Q .non (upd (upd H dx (exd dx [(("at" : Str), .int n)])) a (exo a C (some dx)))
/-- what the top says of an error's class -/
structure ErrC (K : PySem.W.Frag) (mg : Str → Option Value) (x : Str) (C fI : Addr) : Prop where
  g : mg x = some (.ref C)
  o : OexC K C
  i : PySem.W.findIn K (.ref C) "__init__" = some (some (.ref fI))
  no : PySem.W.findIn K (.ref C) "at" = some none
  f : XfC K C
/-- .. and of the __init__ -/
structure InitOk (P : Program) (w : World) (K : PySem.W.Frag) (mg : Str → Option Value) (base : Heap) (fI : Addr) : Prop where
  ex : ∃ fd : FuncData, FnOk P w K mg base CX0 1 fI fd ["self", "at"] (spInitAt K) ∧ Binds K fd ["self", "at"] [] ∧ PySem.W.typeIn K (.ref fI) = some (.type "function")
/-- .. as it stands in the text -/
structure DdI (K : PySem.W.Frag) (q : Str) (st : Stmt) (fI : Addr) : Prop where
  ex : ∃ fd : FuncData, Fun K "__init__" q st fI fd ∧ Binds K fd ["self", "at"] [] ∧ PySem.W.typeIn K (.ref fI) = some (.type "function")
section
variable {X : Cx} {k : Nat} {x : Str} {C fI : Addr} {e : Expr} {ta : TA} {p pos : Pos}
/-- x(e): a new error of the class at C -/
theorem pmk_at (T : ErrC X.K X.mg x C fI) (I : InitOk X.prog X.w X.K X.mg X.base fI) (hr : Room k X.A) (hk : 2 ≤ k) (hg : Gl X x) (ha : PA X (e :: []) ta)
    (hd : (x == ("__debug__" : Str)) = false := by decide) (he : starEach (e :: []) X.env = (false, eval e X.env) :: starEach [] X.env := by rfl) (hp : (backTo pos (starEach [] X.env)).any (·.1) = false := by rfl) :
    PMk X (.Call (.Name x p) (e :: []) [] pos) (tMkO C (spInitAt X.K) [] ta) := by
  obtain ⟨fd, F, b, t⟩ := I.ex
  exact pmk_oex T.o T.i t F (hr.mono hk) b .nil pass0 hg T.g ha hd he hp
end
/-- the reading of a made error, behind its argument -/
theorem mk_at {K : PySem.W.Frag} {C : Addr} {H1 : Hp} {n : Int} {Q : XK} (To : OexC K C) (Tn : PySem.W.findIn K (.ref C) "at" = some none) (hs : Small n)
    (go : ∀ (d : Addr) (H2 : Hp), Same H1 H2 → H1 d = none → H2 d = some (.xd [(("at" : Str), .int n)]) → Q (.ref C) (some d) H2) :
    [V.int n].length ≤ 1000 ∧ ∀ a, H1 a = none → spInitAt K (.ref a :: ([V.int n] ++ [])) (upd H1 a (exo a C none))
      (fun v H2 => v = .non ∧ ∃ (d : Addr) (fs : List (Str × V)), H2 a = some (exo a C (some d)) ∧ H2 d = some (exd d fs) ∧ H1 d = none ∧ Q (.ref C) (some d) (upd (del H2 a) d (.xd fs))) (fun _ _ _ => False) := by
  refine ⟨(by show 1 ≤ 1000; decide), fun a na => ⟨a, C, n, rfl, To, Tn, hs, upd_same, fun dx ndx ne => ⟨rfl, dx, [(("at" : Str), V.int n)], upd_same, ?_, ?_, ?_⟩⟩⟩
  · rw [upd_ne ne, upd_same]
  · rw [upd_ne ne] at ndx
    exact ndx
  · rw [upd_ne ne] at ndx
    refine go dx _ (fun b o hb => ?_) ndx upd_same
    have b1 : b ≠ dx := ne_of_none hb ndx
    have b2 : b ≠ a := ne_of_none hb na
    rw [upd_ne b1, del_ne b2, upd_ne b2, upd_ne b1, upd_ne b2]
    exact hb
theorem wHds_skip {K : PySem.W.Frag} {Wo : WX} {D : Ends} {q : Value × Option Nat × Suite} {r : List (Value × Option Nat × Suite)} {c : Value} {d : Option Addr} {τ : L2.St} {G : Hp} (h : PySem.W.exmOne K c q.1 = some false)
    (go : wHds K Wo D r c d τ G) : wHds K Wo D (q :: r) c d τ G := ⟨false, h, (fun z => Bool.noConfusion z), fun _ => go⟩
theorem wHds_take {K : PySem.W.Frag} {Wo : WX} {D : Ends} {q : Value × Option Nat × Suite} {r : List (Value × Option Nat × Suite)} {c : Value} {d : Option Addr} {τ : L2.St} {G : Hp} (h : PySem.W.exmOne K c q.1 = some true)
    (go : ∀ a, G a = none → enter q.2.1 q.2.2 a c d D τ G) : wHds K Wo D (q :: r) c d τ G := ⟨true, h, (fun _ => go), (fun z => Bool.noConfusion z)⟩
theorem exm_of {K : PySem.W.Frag} {C D : Addr} {b : Bool} (h1 : PySem.W.subIn K (.ref D) (.type "BaseException") = some true) (h2 : PySem.W.isClsIn K D = true) (h3 : PySem.W.typeIn K (.ref D) = some (.type "type"))
    (h4 : PySem.W.subIn K (.ref C) (.ref D) = some b) : PySem.W.exmOne K (.ref C) (.ref D) = some b := by
  have c1 : (PySem.W.subIn K (.ref D) (.type "BaseException") == some true) = true := by rw [h1]; rfl
  have c2 : ((PySem.W.clsIn K D).isSome && PySem.W.typeIn K (.ref D) == some (.type "type")) = true := by
    have h2' : (PySem.W.clsIn K D).isSome = true := h2
    rw [h3, h2']; rfl
  unfold PySem.W.exmOne
  rw [if_pos c1]
  show (if ((PySem.W.clsIn K D).isSome && PySem.W.typeIn K (.ref D) == some (.type "type")) = true then PySem.W.subIn K (.ref C) (.ref D) else none) = some b
  rw [if_pos c2]
  exact h4
end SH
set_option Elab.async false
set_option linter.all false
set_option maxRecDepth 100000
set_option maxHeartbeats 4000000
namespace SH
open PySem PySem.Spec PyProof.Rows L2
/-! comprehensions whose steps only add to the heap: RL tells what the list made so far is -/
/-- all but what stands at D is as it was -/
def But (D : Addr) (H H' : Hp) : Prop := ∀ b o, b ≠ D → H b = some o → H' b = some o
theorem but_upd {D : Addr} {H : Hp} {o : HO} : But D H (upd H D o) := fun b x n e => by
  rw [upd_ne n]
  exact e
theorem but_tup {K : PySem.W.Frag} {D t : Addr} {H H' : Hp} {l xs : List V} (hD : H D = some (.lst l)) (e : But D H H') (h : SqT K H t xs) : SqT K H' t xs := by
  rcases h with h | h
  · rcases h with h | h
    · refine Or.inl (Or.inl (e _ _ (fun z => ?_) h))
      rw [z, hD] at h
      cases h
    · obtain ⟨o, h⟩ := h
      refine Or.inl (Or.inr ⟨o, e _ _ (fun z => ?_) h⟩)
      rw [z, hD] at h
      cases h
  · exact Or.inr h
theorem but_pairs {K : PySem.W.Frag} {D : Addr} {H H' : Hp} {l : List V} {L : PL} (hD : H D = some (.lst l)) (e : But D H H') (h : PairsAt K H L) : PairsAt K H' L := fun q hq => but_tup hD e (h q hq)
section
variable {J : It} {n : Nat} {G : Hp → Prop} {Y : Nat → Hp → V → Hp → Prop}
theorem lc_w (w : Walk J n G Y) {g : TG} {tt : TT} {te : TE} {vs : List Nat} {τ : L2.St} {H1 : Hp} {D : Addr} {Qd : Hp → Prop} (hD : H1 D = none) (hn : n ≤ 100000) (hG : ∀ H, Same H1 H → G H)
    (RL : Nat → List V → Hp → Prop) (h0 : ∀ H, Same H1 H → RL 0 [] H) (mono : ∀ i acc H H' l, H D = some (.lst l) → But D H H' → RL i acc H → RL i acc H')
    (hY : ∀ i H x H', Y i H x H' → Same H H')
    (hs : ∀ (i : Nat) (x : V) (acc : List V) (H H' : Hp) (Qn : VK) (Qf : Hp → Prop), i < n → Same H1 H' → Y i H x H' → RL i acc H' → H' D = some (.lst acc) → (∀ y H4, Same H' H4 → RL (i + 1) (acc ++ [y]) H4 → Qn y H4) → (∀ H3, Same H' H3 → RL (i + 1) acc H3 → Qf H3) →
      g x (wipe τ vs) H' fun τ2 H2 => wipe τ2 vs = wipe τ vs ∧ tt τ2 H2 fun b H3 => if b = true then te τ2 H3 Qn else Qf H3)
    (hd : ∀ acc H, Same H1 H → H D = some (.lst acc) → acc.length ≤ n → RL n acc H → Qd H) :
    ∃ W : Nat → Nat → Hp → Prop, (∃ m, W 0 m (upd H1 D (.lst []))) ∧ ∀ i m H, W i m H →
      (J.stop i H ∧ Qd H) ∨ (J.go i H ∧ ∃ Nx : Hp → Prop, (∀ H', Nx H' → ∃ m', m' < m ∧ W (i + 1) m' H') ∧ ∀ x H', J.yld i H x H' → g x (wipe τ vs) H' fun τ2 H2 => wipe τ2 vs = wipe τ vs ∧ tt τ2 H2 fun b H3 =>
        if b = true then te τ2 H3 fun y H4 => ∃ acc, H4 D = some (.lst acc) ∧ acc.length < sizeLine ∧ Nx (upd H4 D (.lst (acc ++ [y]))) else Nx H3) := by
  refine lc_it w (fun i H => ∃ acc, Same H1 H ∧ H D = some (.lst acc) ∧ acc.length ≤ i ∧ RL i acc H) ⟨[], same_new hD, upd_same, Nat.le_refl _, h0 _ (same_new hD)⟩ (fun i H _ p => ?_) (fun i x H H' hi p y => ?_) (fun H p => ?_)
  · obtain ⟨acc, e, _⟩ := p
    exact hG H e
  · obtain ⟨acc, e, at_, hl, r⟩ := p
    have e1 := hY i H x H' y
    have at1 := e1 _ _ at_
    refine hs i x acc H H' _ _ hi (e.trans e1) y (mono i acc H H' acc at_ (fun b o _ h => e1 b o h) r) at1 (fun z H4 e2 r2 => ?_) (fun H3 e2 r2 => ?_)
    · have at2 := e2 _ _ at1
      refine ⟨acc, at2, Nat.lt_of_le_of_lt (Nat.le_trans hl (Nat.le_of_lt (Nat.lt_of_lt_of_le hi hn))) (by decide), acc ++ [z], same_mut ((e.trans e1).trans e2) hD, upd_same, by simp; omega, mono _ _ H4 _ acc at2 but_upd r2⟩
    · exact ⟨acc, (e.trans e1).trans e2, e2 _ _ at1, by omega, r2⟩
  · obtain ⟨acc, e, at_, hl, r⟩ := p
    exact hd acc H e at_ hl r
end
/-! ### numbers and texts -/
theorem lt1 (c d : Nat) : decide (([c] : List Nat) < [d]) = decide (c < d) := by
  by_cases h : c < d
  · rw [decide_eq_true h]
    exact decide_eq_true (List.Lex.rel h)
  · rw [decide_eq_false h]
    refine decide_eq_false fun z => ?_
    cases z with
    | rel q => exact h q
    | cons q => cases q
/-- a text of the document: not too long, of letters -/
def isTxt (z : Str) : Bool := decide (z.length ≤ 40) && z.cps.toList.all okc
/-- a house of the document, behind a number -/
def chk (before : Int) : List (Int × Str) → Bool
  | [] => true
  | q :: r => decide (before < q.1) && decide (q.1 ≤ 99) && isTxt q.2 && chk q.1 r
def isH (h : List (Int × Str)) : Bool := decide (h.length ≤ 8) && chk (-1) h
theorem chk_of {m : Nat} (hm : m ≤ 40) : ∀ (h : List (Int × Str)) (b : Int), (∀ q ∈ h, b < q.1) → IsHs m h → chk b h = true
  | [], _, _, _ => rfl
  | q :: r, b, hb, a => by
    have t := a.txt q (List.mem_cons_self ..)
    have n := a.num q (List.mem_cons_self ..)
    have asc := a.asc
    rw [List.map_cons, List.pairwise_cons] at asc
    have ih := chk_of hm r q.1 (fun x hx => asc.1 x.1 (List.mem_map_of_mem hx)) ⟨asc.2, fun x hx => a.num x (List.mem_cons_of_mem _ hx), fun x hx => a.txt x (List.mem_cons_of_mem _ hx)⟩
    show (decide (b < q.1) && decide (q.1 ≤ 99) && isTxt q.2 && chk q.1 r) = true
    have e1 := hb q (List.mem_cons_self ..)
    have e2 : isTxt q.2 = true := by
      unfold isTxt
      rw [decide_eq_true (Nat.le_trans t.2 hm)]
      exact t.1
    rw [ih, e2, decide_eq_true e1, decide_eq_true n.2]
    rfl
end SH
set_option Elab.async false
set_option linter.all false
set_option maxRecDepth 100000
set_option maxHeartbeats 4000000
/-! sorted(xs), xs a list of pairs of a number and a text; pairs with one number have one text -/
namespace SH
open PySem PySem.Spec PyProof.Rows L2
def NT (h : Heap) (v : Value) (p : Int × Str) : Prop := ∃ (a : Addr) (o : Obj) (t u : Tok) (c : Nat), v = .ref a ∧ h.get? a = some o ∧ o.cls = .type "tuple" ∧ o.data = .seq #[.int p.1 t, .str p.2 u] c
theorem NT.on {h h' : Heap} {v : Value} {p : Int × Str} (x : NT h v p) (k : ∀ b o, h.get? b = some o → o.cls = .type "tuple" → h'.get? b = some o) : NT h' v p := by
  obtain ⟨a, o, t, u, c, rfl, g, q, r⟩ := x
  exact ⟨a, o, t, u, c, rfl, k a o g q, q, r⟩
theorem nt_firsts {h : Heap} {k : Value → Int × Str} : ∀ (vs : List Value), (∀ v ∈ vs, NT h v (k v)) → ∃ fs, PySem.W.KatTups h vs fs ∧ fs.length = vs.length ∧ ∀ f ∈ fs, ∃ n t, f = Value.int n t
  | [], _ => ⟨[], PySem.W.KatTups.nil, rfl, fun _ m => nomatch m⟩
  | v :: r, x => by
    obtain ⟨fs, k1, k2, k3⟩ := nt_firsts r (fun u m => x u (List.mem_cons_of_mem _ m))
    obtain ⟨a, o, t, u, c, rfl, g, q, d⟩ := x v (List.mem_cons_self ..)
    refine ⟨_, PySem.W.KatTups.cons g q d rfl k1, by simp [k2], fun f m => ?_⟩
    rcases List.mem_cons.mp m with e | m
    · exact ⟨_, _, e⟩
    · exact k3 f m
def ltN (k : Value → Int × Str) (v u : Value) : Bool := decide ((k v).1 < (k u).1)
theorem ltN_swo (k : Value → Int × Str) : SrtO.Swo (ltN k) :=
  ⟨fun x y h => decide_eq_false (by have := of_decide_eq_true h; omega), fun x y z h1 h2 => decide_eq_false (by have a := of_decide_eq_false h1; have b := of_decide_eq_false h2; omega)⟩
section
variable {prog : Program} {w : World} {A : Around} {s : Shared}
theorem nt_cmp {vs : List Value} {k : Value → Int × Str} (hp : ∀ v ∈ vs, NT s.heap v (k v)) (one : ∀ v ∈ vs, ∀ u ∈ vs, (k v).1 = (k u).1 → (k v).2 = (k u).2) :
    SrtO.Cmp prog w A s (tuples' true) (fun p => p.1 ∈ vs) (SrtO.lt2 (ltN k)) := by
  rintro ⟨x, kx⟩ ⟨y, ky⟩ mp mq
  have same := one _ mp _ mq
  show wpAny (model prog w) A (keyLt' (tuples' true) x y) (fun r s' => s' = s ∧ r = decide ((k x).1 < (k y).1)) (fun _ _ => False) s
  obtain ⟨a, o, t, u, c, e, g, cl, d⟩ := hp _ mp
  obtain ⟨a', o', t', u', c', e', g', cl', d'⟩ := hp _ mq
  have ex : x = .ref a := e
  have ey : y = .ref a' := e'
  subst ex ey
  refine PySem.W.kat_lt g d g' d' (PySem.W.kat_cons (SeqAt.EqAt.int_int _ t _ t' prog w _ _ (PySem.W.kat_go (fun e1 => ?_) (fun e1 => ?_))))
  · have en : (k (.ref a)).1 = (k (.ref a')).1 := by simpa using e1
    have ez := same en
    refine PySem.W.kat_yes (PySem.W.kat_cons (SeqAt.EqAt.str_str _ u _ u' prog w _ _ (PySem.W.kat_go (fun _ => ?_) (fun e2 => ?_))))
    · refine PySem.W.kat_yes (PySem.W.kat_nil ⟨rfl, ?_⟩)
      rw [en]
      simp
    · rw [ez] at e2
      simp at e2
  · exact PySem.W.kat_no (oneLt_int ⟨rfl, rfl⟩)
theorem nt_sortable {a : Addr} {vs : List Value} {k : Value → Int × Str} (h0 : 0 < vs.length) (hp : ∀ v ∈ vs, NT s.heap v (k v)) (one : ∀ v ∈ vs, ∀ u ∈ vs, (k v).1 = (k u).1 → (k v).2 = (k u).2)
    (ha : ∀ o, s.heap.get? a = some o → o.cls ≠ .type "tuple") : SrtO.SortableO prog w A s a vs (ltN k) := by
  intro h' keep
  have hp' : ∀ v ∈ vs, NT h' v (k v) := fun v m => (hp v m).on fun b o g c => keep b o (fun z => ha o (z ▸ g) c) g
  obtain ⟨fs, f1, f2, f3⟩ := nt_firsts vs hp'
  refine ⟨tuples' true, fun Q E q => PySem.W.kat_kind (T := .type "int") f1 (by omega) (fun f m => ?_) (by rfl) ?_, nt_cmp hp' one⟩
  · obtain ⟨n, t, rfl⟩ := f3 f m
    exact PySem.W.Looks.now
  · have e : (Value.type "int" != Value.type "tuple") = true := by first | decide +kernel | rfl
    rw [e]
    exact q
end
/-- sorted(xs): a new list of the same pairs, by their numbers -/
def rSortNT (K : PySem.W.Frag) : List V → Hp → VK → Prop := fun vs H Q => ∃ (a : Addr) (L : PL), vs = [.ref a] ∧ HsAt K H a L ∧ (∀ q ∈ L, ∀ r ∈ L, q.2.1 = r.2.1 → q.2.2 = r.2.2) ∧
  ∀ (L' : PL) (p : Addr), L'.Perm L → L'.Pairwise (fun q r => q.2.1 ≤ r.2.1) → H p = none → Q (.ref p) (upd H p (.lst (refs L')))
/-- what stands at the address in a list of pairs -/
def atAddr (L : PL) (v : Value) : Int × Str := match v with
  | .ref a => match L.find? (fun q => q.1 == a) with
    | some q => q.2
    | none => (0, "")
  | _ => (0, "")
def addrOf : Value → Addr
  | .ref a => a
  | _ => 0
theorem atAddr_of {L : PL} (un : ∀ q ∈ L, ∀ r ∈ L, q.1 = r.1 → q.2 = r.2) {q : Addr × Int × Str} (hq : q ∈ L) : atAddr L (.ref q.1) = q.2 := by
  show (match L.find? (fun r => r.1 == q.1) with | some r => r.2 | none => (0, "")) = q.2
  cases e : L.find? (fun r => r.1 == q.1) with
  | some r =>
    have h1 := List.mem_of_find?_eq_some e
    have h2 := List.find?_some e
    exact un r h1 q hq (by simpa using h2)
  | none =>
    have := List.find?_eq_none.mp e q hq
    simp at this
section
variable {X : Cx}
theorem cr_sortNT : CallR X (.builtin "sorted") (rSortNT X.K) := by
  intro pins s τ H vs us Q I r h
  obtain ⟨a, L, rfl, hA, one, q⟩ := h
  obtain ⟨its, rv, hl, hz⟩ := I.list hA.1
  obtain ⟨u, rfl, ru⟩ := vals1 r
  obtain rfl : u = Value.ref a := ru
  obtain ⟨e1, e2⟩ := refs_back rv (fun x m => by
    obtain ⟨q, _, e⟩ := List.mem_map.mp m
    exact ⟨q.1, e.symm⟩)
  -- one address, one pair
  have un : ∀ q ∈ L, ∀ r ∈ L, q.1 = r.1 → q.2 = r.2 := fun q hq r hr e => by
    have z := I.tuple_inj (hA.2 q hq) (by rw [e]; exact hA.2 r hr)
    obtain ⟨x, n, t⟩ := q
    obtain ⟨y, m, t'⟩ := r
    simp at z
    show (n, t) = (m, t')
    rw [z.1, z.2]
  have mem : ∀ v ∈ its, ∃ q ∈ L, v = Value.ref q.1 := fun v hv => by
    obtain ⟨t, rfl⟩ := e2 v hv
    have m : V.ref t ∈ refs L := by
      rw [e1]
      exact List.mem_map.mpr ⟨_, hv, rfl⟩
    obtain ⟨q, hq, e⟩ := List.mem_map.mp m
    cases e
    exact ⟨q, hq, rfl⟩
  have nt : ∀ v ∈ its, NT s.heap v (atAddr L v) := fun v hv => by
    obtain ⟨q, hq, rfl⟩ := mem v hv
    rw [atAddr_of un hq]
    obtain ⟨i2, r2, ⟨o, g, c, n, d⟩, _⟩ := I.tuple (hA.2 q hq)
    obtain ⟨u1, u2, rfl, ⟨t1, rfl⟩, ⟨t2, rfl⟩⟩ := vals2 r2
    exact ⟨q.1, o, t1, t2, n, rfl, g, c, d⟩
  have one' : ∀ v ∈ its, ∀ u ∈ its, (atAddr L v).1 = (atAddr L u).1 → (atAddr L v).2 = (atAddr L u).2 := fun v hv u hu => by
    obtain ⟨q, hq, rfl⟩ := mem v hv
    obtain ⟨r, hr, rfl⟩ := mem u hu
    rw [atAddr_of un hq, atAddr_of un hr]
    exact one q hq r hr
  refine SrtO.sorted_ord (ltN_swo (atAddr L)) hl.isList (by rw [← rv.length]; exact hz) (fun h2 h₁ b hb kk => ?_) (fun out hs hb => ?_)
  · refine nt_sortable (s := { s with heap := h₁ }) (by omega) (fun v m => (nt v m).on fun c o g _ => (kk c o g).2) one' (fun o g c => ?_)
    have g' : some o = some (seqObj "list" its.toArray 0) := g.symm.trans hb
    cases g'
    exact absurd (Value.type.inj c) (by decide)
  · have mo : ∀ v ∈ out, ∃ q ∈ L, v = Value.ref q.1 := fun v hv => mem v (hb.perm.mem_iff.mp hv)
    -- the pairs in their new order
    let f : Value → Addr × Int × Str := fun v => (addrOf v, atAddr L v)
    have fq : ∀ q ∈ L, f (.ref q.1) = q := fun q hq => by
      show (q.1, atAddr L (.ref q.1)) = q
      rw [atAddr_of un hq]
    have hL : its.map f = L := by
      have z : (refs L).map (fun v => match v with | .ref t => f (.ref t) | _ => (0, 0, "")) = L := by
        unfold refs
        rw [List.map_map]
        calc L.map _ = L.map id := List.map_congr_left fun q hq => fq q hq
          _ = L := List.map_id L
      rw [e1, List.map_map] at z
      refine Eq.trans (List.map_congr_left fun v hv => ?_) z
      obtain ⟨q, _, rfl⟩ := mem v hv
      rfl
    have hp : (out.map f).Perm L := by
      rw [← hL]
      exact hb.perm.map f
    have hr : refs (out.map f) = out.map backV := by
      unfold refs
      rw [List.map_map]
      refine List.map_congr_left fun v hv => ?_
      obtain ⟨q, _, rfl⟩ := mo v hv
      rfl
    have hsrt : (out.map f).Pairwise (fun q r => q.2.1 ≤ r.2.1) := by
      rw [List.pairwise_map]
      refine List.Pairwise.imp (fun {x y} h => ?_) hs
      have := of_decide_eq_false h
      show (atAddr L x).1 ≤ (atAddr L y).1
      omega
    obtain ⟨n, hn⟩ := sortedAll_at s.heap its out.toArray
    have hd : s.heap.objs.size ≤ s.heap.objs.size + 1 := Nat.le_succ _
    refine ⟨.ref (s.heap.objs.size + 1), upd H (s.heap.objs.size + 1) (.lst (refs (out.map f))), I.laid (t' := s.toks) (fun b o g => sortedAll_old g) hd ⟨?_, out, n, ?_, hn⟩, rfl, q _ _ hp hsrt (I.hok.fresh hd)⟩
    · have e3 : (refs (out.map f)).length = (refs L).length := by
        unfold refs
        rw [List.length_map, List.length_map (as := L), hp.length_eq]
      rw [e3]
      exact hz
    · rw [hr]
      exact vals_back fun v hv => by
        obtain ⟨q, _, rfl⟩ := mo v hv
        exact ⟨q.1, rfl⟩
end
end SH
set_option Elab.async false
set_option linter.all false
set_option maxRecDepth 100000
set_option maxHeartbeats 4000000
/-! houses as data, compared -/
namespace SH
open PySem PySem.Spec PyProof.Rows L2
def dPair (q : Int × Str) : PyData := .tuple [.int q.1, .str q.2]
def dH (h : List (Int × Str)) : PyData := .list (h.map dPair)
theorem dp_refs {K : PySem.W.Frag} {H : Hp} : ∀ (L : PL), PairsAt K H L → DpAll K H (refs L) (L.map fun q => dPair q.2)
  | [], _ => .nil
  | q :: r, h => .cons (.tup (h q (List.mem_cons_self ..)) (.cons (.int _) (.cons (.str _) .nil))) (dp_refs r fun x m => h x (List.mem_cons_of_mem _ m))
theorem dp_house {K : PySem.W.Frag} {H : Hp} {a : Addr} {L : PL} (h : HsAt K H a L) : Dp K H (.ref a) (dH (L.map (·.2))) := by
  refine .lst h.1 ?_
  rw [List.map_map]
  exact dp_refs L h.2
theorem okc_lt {c : Nat} (h : okc c = true) : c < 127 := by
  unfold okc at h
  simp at h
  omega
theorem let_ok {z : Str} (h : IsLet z) : PyData.strOk z = true := by
  unfold PyData.strOk
  rw [← Array.all_toList]
  refine List.all_eq_true.mpr fun c hc => ?_
  have := okc_lt (List.all_eq_true.mp h c hc)
  exact decide_eq_true (by omega)
def LetAll (h : List (Int × Str)) : Prop := ∀ q ∈ h, IsLet q.2
theorem dH_lay : ∀ {h : List (Int × Str)}, LetAll h → PyData.canLayAll0 (h.map dPair) = true
  | [], _ => rfl
  | q :: r, a => by
    rw [List.map_cons, PyData.canLayAll0, dH_lay fun x m => a x (List.mem_cons_of_mem _ m)]
    simp [dPair, PyData.canLay0, PyData.canLayAll0, let_ok (a q (List.mem_cons_self ..))]
theorem dH_deep : ∀ (h : List (Int × Str)), PyData.depthAll (h.map dPair) ≤ 1
  | [] => Nat.zero_le _
  | q :: r => by
    rw [List.map_cons, PyData.depthAll]
    have := dH_deep r
    have e : PyData.depth (dPair q) = 1 := rfl
    rw [e]
    omega
theorem dH_shaped {h : List (Int × Str)} (a : LetAll h) : SeqAt.shaped (dH h) = true := by
  unfold SeqAt.shaped
  have e1 : (dH h).canLay0 = true := dH_lay a
  have e2 : (dH h).depth ≤ 64 := by
    show PyData.depthAll (h.map dPair) + 1 ≤ 64
    have := dH_deep h
    omega
  rw [e1, decide_eq_true e2]
  rfl
theorem dH_refl {h : List (Int × Str)} (a : LetAll h) : PyData.eqv (dH h) (dH h) = true := SeqAt.eqv_refl _ (show (dH h).canLay0 = true from dH_lay a)
/-- what is told or due: a tag and a thing -/
def dT (p : Str × PyData) : PyData := .tuple [.str p.1, p.2]
theorem dT_shaped {p : Str × PyData} (h1 : PyData.strOk p.1 = true) (h2 : p.2.canLay0 = true) (h3 : p.2.depth ≤ 60) : SeqAt.shaped (dT p) = true ∧ PyData.eqv (dT p) (dT p) = true := by
  have e1 : (dT p).canLay0 = true := by
    show (PyData.strOk p.1 && (p.2.canLay0 && true)) = true
    rw [h1, h2]
    rfl
  have e2 : (dT p).depth ≤ 64 := by
    show max 0 (max p.2.depth 0) + 1 ≤ 64
    omega
  refine ⟨?_, SeqAt.eqv_refl _ e1⟩
  unfold SeqAt.shaped
  rw [e1, decide_eq_true e2]
  rfl
theorem dH_depth (h : List (Int × Str)) : (dH h).depth ≤ 60 := by
  show PyData.depthAll (h.map dPair) + 1 ≤ 60
  have := dH_deep h
  omega
theorem isTxt_let {z : Str} (h : isTxt z = true) : IsLet z := by
  unfold isTxt at h
  exact (Bool.and_eq_true_iff.mp h).2
theorem IsHs.letAll {m : Nat} {h : List (Int × Str)} (a : IsHs m h) : LetAll h := fun q hq => (a.txt q hq).1
theorem LetAll.filter {h : List (Int × Str)} (a : LetAll h) (p : Int × Str → Bool) : LetAll (h.filter p) := fun q hq => a q (List.mem_filter.mp hq).1
theorem LetAll.app {h k : List (Int × Str)} (a : LetAll h) (b : LetAll k) : LetAll (h ++ k) := fun q hq => (List.mem_append.mp hq).elim (a q) (b q)
theorem letAll_ins {n : Int} {z : Str} {h : List (Int × Str)} (a : LetAll h) (b : IsLet z) : LetAll (h.filter (fun q => decide (q.1 < n)) ++ [(n, z)] ++ h.filter (fun q => decide (n < q.1))) :=
  ((a.filter _).app fun q hq => by rw [List.mem_singleton.mp hq]; exact b).app (a.filter _)
/-! a house that is none -/
theorem chk_true : ∀ {h : List (Int × Str)} {b : Int}, chk b h = true → (h.map (·.1)).Pairwise (· < ·) ∧ (∀ q ∈ h, b < q.1 ∧ q.1 ≤ 99 ∧ isTxt q.2 = true)
  | [], _, _ => ⟨List.Pairwise.nil, fun q hq => nomatch hq⟩
  | q :: r, b, h => by
    have h' : (decide (b < q.1) && decide (q.1 ≤ 99) && isTxt q.2 && chk q.1 r) = true := h
    simp only [Bool.and_eq_true, decide_eq_true_eq] at h'
    obtain ⟨⟨⟨h1, h2⟩, h3⟩, h4⟩ := h'
    obtain ⟨i1, i2⟩ := chk_true h4
    refine ⟨?_, fun x hx => ?_⟩
    · rw [List.map_cons, List.pairwise_cons]
      refine ⟨fun y hy => ?_, i1⟩
      obtain ⟨z, hz, rfl⟩ := List.mem_map.mp hy
      exact (i2 z hz).1
    · rcases List.mem_cons.mp hx with e | m
      · rw [e]; exact ⟨h1, h2, h3⟩
      · have := i2 x m
        exact ⟨by omega, this.2⟩
theorem isH_false {h : List (Int × Str)} (no : ¬ (h.length ≤ 8 ∧ (h.map (·.1)).Pairwise (· < ·) ∧ ∀ q ∈ h, -1 < q.1 ∧ q.1 ≤ 99 ∧ isTxt q.2 = true)) : isH h = false := by
  cases e : isH h with
  | false => rfl
  | true =>
    unfold isH at e
    obtain ⟨e1, e2⟩ := Bool.and_eq_true_iff.mp e
    exact absurd ⟨of_decide_eq_true e1, chk_true e2⟩ no
/-! ### a house filtered, pair by pair -/
theorem refs_get {L : PL} {i : Nat} {x : V} (h : (refs L)[i]? = some x) : ∃ t, L[i]? = some t ∧ t ∈ L ∧ x = .ref t.1 := by
  unfold refs at h
  rw [List.getElem?_map] at h
  cases e : L[i]? with
  | none => rw [e] at h; cases h
  | some t =>
    rw [e] at h
    cases h
    exact ⟨t, rfl, List.mem_of_getElem? e, rfl⟩
theorem lc_filter {K : PySem.W.Frag} {a : Addr} {L : PL} {g : TG} {tt : TT} {te : TE} {vs : List Nat} {τ : L2.St} {H1 : Hp} {D : Addr} {Qd : Hp → Prop} (hD : H1 D = none) (hA : HsAt K H1 a L) (hl : L.length ≤ 1000) (p : Addr × Int × Str → Bool)
    (hs : ∀ (q : Addr × Int × Str) (H' : Hp) (Qn : VK) (Qf : Hp → Prop), q ∈ L → Same H1 H' → (p q = true → Qn (.ref q.1) H') → (p q = false → Qf H') →
      g (.ref q.1) (wipe τ vs) H' fun τ2 H2 => wipe τ2 vs = wipe τ vs ∧ tt τ2 H2 fun b H3 => if b = true then te τ2 H3 Qn else Qf H3)
    (hd : ∀ H, Same H1 H → H D = some (.lst (refs (L.filter p))) → Qd H) :
    ∃ W : Nat → Nat → Hp → Prop, (∃ m, W 0 m (upd H1 D (.lst []))) ∧ ∀ i m H, W i m H →
      ((Itl K a).stop i H ∧ Qd H) ∨ ((Itl K a).go i H ∧ ∃ Nx : Hp → Prop, (∀ H', Nx H' → ∃ m', m' < m ∧ W (i + 1) m' H') ∧ ∀ x H', (Itl K a).yld i H x H' → g x (wipe τ vs) H' fun τ2 H2 => wipe τ2 vs = wipe τ vs ∧ tt τ2 H2 fun b H3 =>
        if b = true then te τ2 H3 fun y H4 => ∃ acc, H4 D = some (.lst acc) ∧ acc.length < sizeLine ∧ Nx (upd H4 D (.lst (acc ++ [y]))) else Nx H3) := by
  have rl : (refs L).length = L.length := List.length_map ..
  refine lc_w (walk_list (xs := refs L)) hD (by omega) (fun H' e => e.seq hA.1) (fun i acc _ => acc = refs ((L.take i).filter p)) (fun _ _ => rfl) (fun _ _ _ _ _ _ _ r => r) (fun i H x H' y => by rw [y.1]; exact Same.refl _)
    (fun i x acc H2 H3 Qn Qf hi sm y r at_ kn kf => ?_) (fun acc H2 sm at_ _ r => ?_)
  · obtain ⟨rfl, hx⟩ := y
    obtain ⟨t, ht, tm, rfl⟩ := refs_get hx
    refine hs t _ Qn Qf tm sm (fun e => kn _ _ (Same.refl _) ?_) (fun e => kf _ (Same.refl _) ?_)
    · rw [r, List.take_add_one, ht, List.filter_append]
      show _ = refs (_ ++ [t].filter p)
      rw [List.filter_cons_of_pos e]
      unfold refs
      rw [List.map_append]
      rfl
    · rw [r, List.take_add_one, ht, List.filter_append]
      show _ = refs (_ ++ [t].filter p)
      rw [List.filter_cons_of_neg (by rw [e]; decide), List.filter_nil, List.append_nil]
  · refine hd H2 sm ?_
    rw [at_, r, List.take_of_length_le (by omega)]
theorem HsAt.filter {K : PySem.W.Frag} {H : Hp} {L : PL} (h : PairsAt K H L) (p : Addr × Int × Str → Bool) : PairsAt K H (L.filter p) := fun q hq => h q (List.mem_filter.mp hq).1
theorem map_filter (L : PL) (p : Int × Str → Bool) : (L.filter fun q => p q.2).map (·.2) = (L.map (·.2)).filter p := by
  rw [List.filter_map]
  rfl
mutual
theorem dp_same {K : PySem.W.Frag} {H H' : Hp} (e : Same H H') : ∀ {d : PyData} {v : V}, Dp K H v d → Dp K H' v d
  | .none, _, h => by cases h; exact .non
  | .bool _, _, h => by cases h; exact .bl _
  | .int _, _, h => by cases h; exact .int _
  | .str _, _, h => by cases h; exact .str _
  | .list ds, _, h => by
    cases h with
    | lst s a => exact .lst (e.seq s) (dp_all_same e a)
  | .tuple ds, _, h => by
    cases h with
    | tup s a => exact .tup (same_tup e s) (dp_all_same e a)
  | .dict _, _, h => by cases h
theorem dp_all_same {K : PySem.W.Frag} {H H' : Hp} (e : Same H H') : ∀ {ds : List PyData} {vs : List V}, DpAll K H vs ds → DpAll K H' vs ds
  | [], _, h => by cases h; exact .nil
  | d :: ds, _, h => by
    cases h with
    | cons a b => exact .cons (dp_same e a) (dp_all_same e b)
end
/-! ### slices, texts of one letter joined -/
theorem cut_to (xs : List V) (k : Nat) : cutV xs none (some (k : Int)) = xs.take k := by
  unfold cutV
  rw [HT.sIx_none, HT.sIx_nat, List.drop_zero, Nat.sub_zero]
  rcases Nat.le_total k xs.length with h | h
  · rw [Nat.min_eq_left h]
  · rw [Nat.min_eq_right h, List.take_length, List.take_of_length_le h]
theorem joinL_len : ∀ (n c : Nat), (TL.joinL [] (List.replicate n [c])).length = n
  | 0, _ => rfl
  | 1, _ => rfl
  | n + 2, c => by
    show ([c] ++ ([] ++ TL.joinL [] (List.replicate (n + 1) [c]))).length = n + 2
    rw [List.nil_append, List.length_append, joinL_len (n + 1) c]
    show 1 + (n + 1) = n + 2
    omega
theorem join_len {n c : Nat} : (Txt.join "" (List.replicate n (⟨#[c]⟩ : Str))).length = n := by
  have e : (Txt.join "" (List.replicate n (⟨#[c]⟩ : Str))).cps.toList = TL.joinL [] (List.replicate n [c]) := by
    rw [TL.join_eq]
    refine (TL.tl_join "" _).trans ?_
    rw [List.map_replicate]
    rfl
  have e2 := congrArg List.length e
  rw [joinL_len] at e2
  exact e2
theorem joinL_mem {x : Nat} : ∀ (n c : Nat), x ∈ TL.joinL [] (List.replicate n [c]) → x = c
  | 0, _, h => by cases h
  | 1, _, h => by simpa [TL.joinL] using h
  | n + 2, c, h => by
    have h' : x ∈ [c] ++ ([] ++ TL.joinL [] (List.replicate (n + 1) [c])) := h
    rw [List.nil_append] at h'
    rcases List.mem_append.mp h' with m | m
    · exact List.mem_singleton.mp m
    · exact joinL_mem (n + 1) c m
theorem join_mem {n c x : Nat} (h : x ∈ (Txt.join "" (List.replicate n (⟨#[c]⟩ : Str))).cps.toList) : x = c := by
  have e : (Txt.join "" (List.replicate n (⟨#[c]⟩ : Str))).cps.toList = TL.joinL [] (List.replicate n [c]) := by
    rw [TL.join_eq]
    refine (TL.tl_join "" _).trans ?_
    rw [List.map_replicate]
    rfl
  rw [e] at h
  exact joinL_mem n c h
theorem isTxt_long {z : Str} (h : 40 < z.length) : isTxt z = false := by
  unfold isTxt
  rw [decide_eq_false (by omega)]
  rfl
theorem isTxt_line {z : Str} (h : 10 ∈ z.cps.toList) : isTxt z = false := by
  unfold isTxt
  have : z.cps.toList.all okc = false := by
    cases e : z.cps.toList.all okc with
    | false => rfl
    | true => exact absurd (List.all_eq_true.mp e 10 h) (by decide)
  rw [this, Bool.and_false]
end SH
set_option Elab.async false
set_option linter.all false
set_option maxRecDepth 100000
set_option maxHeartbeats 4000000
/-! own classes: their methods, a new instance -/
namespace SH
open PySem PySem.Spec PyProof.Rows L2
/-- a method as it stands -/
structure DdM (K : PySem.W.Frag) (C : Addr) (m qual : Str) (st : Stmt) (ps : List Str) : Prop where
  ex : ∃ (f : Addr) (fd : FuncData), Fun K m qual st f fd ∧ Meth K C m f ∧ Binds K fd ps []
structure DdMk (K : PySem.W.Frag) (C : Addr) (m qual : Str) (st : Stmt) (ps : List Str) : Prop where
  ex : ∃ (f : Addr) (fd : FuncData), Fun K m qual st f fd ∧ Mk K C f ∧ Binds K fd ps []
/-- e.f, the frame said -/
theorem pe_fldK {X : Cx} {K : PySem.W.Frag} {e : Expr} {f : Str} {pos : Pos} {ta : TE} (he : PE X e ta) (hb : attributeBase e f X.env (eval e X.env) = eval e X.env) (h : X.K = K := by rfl) : PE X (.Attribute e f pos) (tFld K ta f) := h ▸ pe_fld he hb
theorem cr_sortedPOK {X : Cx} {K : PySem.W.Frag} (h : X.K = K := by rfl) : CallR X (.builtin "sorted") (rSortedPO K) := h ▸ cr_sortedPO
theorem pi_listK {X : Cx} {K : PySem.W.Frag} {tg e : Expr} {te : TE} (he : PE X e te) (h : X.K = K := by rfl) : PI X tg e (iList K te) := h ▸ pi_list he
section
variable {P : Program} {w : World} {K : PySem.W.Frag} {mg : Str → Option Value} {base : Heap}
theorem met_of {C : Addr} {m qual : Str} {st : Stmt} {ps N : List Str} {k : Nat} {sp : Sp} (D : DdM K C m qual st ps) (c : Cls K C) (S : FnScope N ps (defScope st)) (len : ∀ vs H Q E, sp vs H Q E → vs.length = ps.length)
    (hbody : ∀ (f : Addr) (cdv : Value) (A : Around) (outer : List Env) (s : Shared) (H : Hp) (vs : List V) (Q : VK) (E : XK), Room k (A.deeper (envOfC qual (defScope st) s.heap.objs.size f cdv)) → sp vs H Q E →
      ∃ t, PSs (cxOf CX0 P w K mg base N qual (defScope st) f cdv A outer s H E).nox (defBody st) t ∧ t { nx := fun _ H' => Q .non H', rt := Q } (start N vs) H) : C8.Met P w K mg base (k + 1) C m sp [] := by
  obtain ⟨f, fd, F, me, b⟩ := D.ex
  exact ⟨f, fd, ps, [], c, me, F.ok S len (fun cdv A outer s H vs Q E hr h => hbody f cdv A outer s H vs Q E hr h), b, .nil⟩
theorem mak_of {x : Str} {C : Addr} {m qual : Str} {st : Stmt} {ps N : List Str} {k : Nat} {sp : Sp} (D : DdMk K C m qual st ps) (hm : mg x = some (.ref C)) (S : FnScope N ps (defScope st)) (len : ∀ vs H Q E, sp vs H Q E → vs.length = ps.length)
    (hbody : ∀ (f : Addr) (cdv : Value) (A : Around) (outer : List Env) (s : Shared) (H : Hp) (vs : List V) (Q : VK) (E : XK), Room k (A.deeper (envOfC qual (defScope st) s.heap.objs.size f cdv)) → sp vs H Q E →
      ∃ t, PSs (cxOf CX0 P w K mg base N qual (defScope st) f cdv A outer s H E).nox (defBody st) t ∧ t { nx := fun _ H' => Q .non H', rt := Q } (start N vs) H) : C8.Mak P w K mg base (k + 1) x C sp [] := by
  obtain ⟨f, fd, F, me, b⟩ := D.ex
  exact ⟨f, fd, ps, [], me, F.ok S len (fun cdv A outer s H vs Q E hr h => hbody f cdv A outer s H vs Q E hr h), hm, b, .nil⟩
end
end SH
set_option Elab.async false
set_option linter.all false
set_option maxRecDepth 100000
set_option maxHeartbeats 4000000
/-! sorted(xs) of any data; triples of a text, a number and a start -/
namespace SH
open PySem PySem.Spec PyProof.Rows L2
section
variable {α : Type}
theorem each_of_vals : ∀ {Z : List (V × α)} {its : List Value}, Vals (Z.map (·.1)) its → PySem.W.EachIs (fun v z => RelV z.1 v) its Z
  | [], _, .nil => .nil
  | _ :: _, _, .cons r t => .cons r (each_of_vals t)
theorem vals_of_each : ∀ {Z : List (V × α)} {its : List Value}, PySem.W.EachIs (fun v z => RelV z.1 v) its Z → Vals (Z.map (·.1)) its
  | _, _, .nil => .nil
  | _, _, .cons r t => .cons r (vals_of_each t)
end
/-- sorted(xs): a new list of the same things, by what they read as -/
def rSortD (K : PySem.W.Frag) : List V → Hp → VK → Prop := fun vs H Q => ∃ (α : Type) (enc : α → PyData) (a : Addr) (Z : List (V × α)), vs = [.ref a] ∧ SqL K H a (Z.map (·.1)) ∧ (∀ z ∈ Z, Dp K H z.1 (enc z.2)) ∧
  PySem.W.AllAlike (Z.map fun z => enc z.2) ∧ PySem.W.Sortable (Z.map fun z => enc z.2) ∧ (∀ z ∈ Z, (enc z.2).depth ≤ 60) ∧
  ∀ p : Addr, H p = none → Q (.ref p) (upd H p (.lst ((Z.mergeSort (PySem.W.dataLe false fun z => enc z.2)).map (·.1))))
section
variable {X : Cx}
theorem cr_sortD (hu : X.A.units + 64 < cLine) : CallR X (.builtin "sorted") (rSortD X.K) := by
  intro pins s τ H vs us Q I r h
  obtain ⟨α, enc, a, Z, rfl, hA, hd, hal, hk, hdp, q⟩ := h
  obtain ⟨its, rv, hl, hz⟩ := I.list hA
  obtain ⟨u, rfl, ru⟩ := vals1 r
  obtain rfl : u = Value.ref a := ru
  rw [List.length_map] at hz
  have e := each_of_vals rv
  have er : PySem.W.EachIs (fun v z => ∃ as, Reads s.heap v (enc z.2) as) its Z := (PySem.W.each_mem e).mono fun v z h => Dp.reads I (enc z.2) z.1 v (hd z h.2) h.1
  refine PySem.W.sorted_data (enc := fun z : V × α => enc z.2) hl.isList e er hal hk hz (fun z hm => ?_) (fun out ho eo => ?_)
  · have := hdp z hm
    omega
  · obtain ⟨n, hn⟩ := sortedAll_at s.heap its out.toArray
    have hs : s.heap.objs.size ≤ s.heap.objs.size + 1 := Nat.le_succ _
    refine ⟨.ref (s.heap.objs.size + 1), upd H (s.heap.objs.size + 1) (.lst ((Z.mergeSort (PySem.W.dataLe false fun z => enc z.2)).map (·.1))), I.laid (t' := s.toks) (fun b o g => sortedAll_old g) hs ⟨?_, out, n, vals_of_each eo, hn⟩, rfl, q _ (I.hok.fresh hs)⟩
    rw [List.length_map, List.length_mergeSort]
    exact hz
theorem cr_sortDK {K : PySem.W.Frag} (hu : X.A.units + 64 < cLine) (h : X.K = K := by rfl) : CallR X (.builtin "sorted") (rSortD K) := h ▸ cr_sortD hu
end
/-! ### triples: a text, a number, a start -/
abbrev E3 := Str × Int × Int
def lex3 (p q : E3) : Prop := p.1.cps.toList < q.1.cps.toList ∨ (p.1 = q.1 ∧ (p.2.1 < q.2.1 ∨ (p.2.1 = q.2.1 ∧ p.2.2 < q.2.2)))
instance (p q : E3) : Decidable (lex3 p q) := inferInstanceAs (Decidable (_ ∨ _))
def le3 (p q : E3) : Bool := !decide (lex3 q p)
def eFlat (p : E3) : PyData := .tuple [.str p.1, .int p.2.1, .int p.2.2]
def eNest (p : E3) : PyData := .tuple [.str p.1, .tuple [.int p.2.1, .int p.2.2]]
theorem str_ext {x y : Str} (h : x.cps.toList = y.cps.toList) : x = y := by
  obtain ⟨a⟩ := x
  obtain ⟨b⟩ := y
  have : a = b := Array.toList_inj.mp h
  rw [this]
theorem lex3_irrefl (p : E3) : ¬ lex3 p p := by
  rintro (h | ⟨_, h | ⟨_, h⟩⟩)
  · exact List.lt_irrefl _ h
  · omega
  · omega
theorem lex3_tr {p q r : E3} (h : lex3 p q) (h2 : lex3 q r) : lex3 p r := by
  rcases h with h | ⟨e, h⟩ <;> rcases h2 with h2 | ⟨e2, h2⟩
  · exact .inl (List.lt_trans h h2)
  · exact .inl (e2 ▸ h)
  · exact .inl (by rw [e]; exact h2)
  · refine .inr ⟨e.trans e2, ?_⟩
    rcases h with h | ⟨f, h⟩ <;> rcases h2 with h2 | ⟨f2, h2⟩
    · exact .inl (by omega)
    · exact .inl (by omega)
    · exact .inl (by omega)
    · exact .inr ⟨by omega, by omega⟩
theorem lex3_tri {p q : E3} (h : ¬ lex3 p q) (h2 : ¬ lex3 q p) : p = q := by
  have a1 : p.1.cps.toList ≤ q.1.cps.toList := List.not_lt.mp fun z => h2 (.inl z)
  have a2 : q.1.cps.toList ≤ p.1.cps.toList := List.not_lt.mp fun z => h (.inl z)
  have a : p.1 = q.1 := str_ext (List.le_antisymm a1 a2)
  have b : p.2.1 = q.2.1 := by
    rcases Int.lt_trichotomy p.2.1 q.2.1 with z | z | z
    · exact absurd (.inr ⟨a, .inl z⟩) h
    · exact z
    · exact absurd (.inr ⟨a.symm, .inl z⟩) h2
  have c : p.2.2 = q.2.2 := by
    rcases Int.lt_trichotomy p.2.2 q.2.2 with z | z | z
    · exact absurd (.inr ⟨a, .inr ⟨b, z⟩⟩) h
    · exact z
    · exact absurd (.inr ⟨a.symm, .inr ⟨b.symm, z⟩⟩) h2
  obtain ⟨x, y, z⟩ := p
  obtain ⟨x', y', z'⟩ := q
  simp at a b c
  rw [a, b, c]
theorem le3_tr (p q r : E3) (h : le3 p q = true) (h2 : le3 q r = true) : le3 p r = true := by
  unfold le3 at *
  simp only [Bool.not_eq_true', decide_eq_false_iff_not] at *
  intro z
  by_cases c : lex3 p q
  · exact h2 (lex3_tr z c)
  · have := lex3_tri c h
    subst this
    exact h2 z
theorem le3_tot (p q : E3) : (le3 p q || le3 q p) = true := by
  unfold le3
  by_cases c : lex3 q p
  · have d : ¬ lex3 p q := fun z => lex3_irrefl _ (lex3_tr c z)
    rw [decide_eq_true c, decide_eq_false d]
    rfl
  · rw [decide_eq_false c]
    rfl
theorem eqv_str (x y : Str) : PyData.eqv (.str x) (.str y) = decide (x = y) := by
  by_cases h : x = y
  · simp [PyData.eqv, h]
  · simp [PyData.eqv, h]
theorem eqv_int (x y : Int) : PyData.eqv (.int x) (.int y) = decide (x = y) := by
  by_cases h : x = y
  · simp [PyData.eqv, h]
  · simp [PyData.eqv, h]
theorem flat_lt (p q : E3) : PySem.W.dataLt (eFlat p) (eFlat q) = decide (lex3 p q) := by
  unfold eFlat
  rw [PySem.W.dataLt_tuple, PySem.W.dataLt_cons (by simp [PySem.W.alike]), PySem.W.dataLt_cons (by simp [PySem.W.alike]), PySem.W.dataLt_cons (by simp [PySem.W.alike])]
  have e : PyProof.Rows.lexLt itemOrd (PySem.W.keyToksAll []) (PySem.W.keyToksAll []) = false := lex_irrefl _
  rw [e, eqv_str, eqv_int, eqv_int, PySem.W.dataLt_str, PySem.W.dataLt_int, PySem.W.dataLt_int]
  unfold lex3
  by_cases a : p.1 = q.1
  · have na : ¬ p.1.cps.toList < q.1.cps.toList := by rw [a]; exact List.lt_irrefl _
    by_cases b : p.2.1 = q.2.1
    · by_cases c : p.2.2 = q.2.2
      · simp [a, b, c]
      · rw [decide_eq_true a, decide_eq_true b, decide_eq_false c]
        show decide (p.2.2 < q.2.2) = _
        exact decide_eq_decide.mpr ⟨fun h => .inr ⟨a, .inr ⟨b, h⟩⟩, fun h => h.elim (fun h => absurd h na) fun h => h.2.elim (fun h => by omega) fun h => h.2⟩
    · rw [decide_eq_true a, decide_eq_false b]
      show decide (p.2.1 < q.2.1) = _
      exact decide_eq_decide.mpr ⟨fun h => .inr ⟨a, .inl h⟩, fun h => h.elim (fun h => absurd h na) fun h => h.2.elim id fun h => absurd h.1 b⟩
  · simp [a]
theorem nest_lt (p q : E3) : PySem.W.dataLt (eNest p) (eNest q) = decide (lex3 p q) := by
  unfold eNest
  rw [PySem.W.dataLt_pair (by simp [PySem.W.alike]) (by simp [PySem.W.alike, PySem.W.alikeAll]), PySem.W.dataLt_ii, PySem.W.dataLt_str, eqv_str]
  have e2 : PyData.eqv (.tuple [.int p.2.1, .int p.2.2]) (.tuple [.int q.2.1, .int q.2.2]) = decide (p.2 = q.2) := by
    obtain ⟨x, y, z⟩ := p
    obtain ⟨x', y', z'⟩ := q
    by_cases b : y = y' <;> by_cases c : z = z' <;> simp [PyData.eqv, PyData.eqvAll, b, c]
  rw [e2]
  unfold lex3
  by_cases a : p.1 = q.1
  · have na : ¬ p.1.cps.toList < q.1.cps.toList := by rw [a]; exact List.lt_irrefl _
    by_cases b : p.2 = q.2
    · simp [a, b]
    · rw [decide_eq_true a, decide_eq_false b]
      show decide (p.2.1 < q.2.1 ∨ (p.2.1 = q.2.1 ∧ p.2.2 < q.2.2)) = _
      exact decide_eq_decide.mpr ⟨fun h => .inr ⟨a, h⟩, fun h => h.elim (fun h => absurd h na) fun h => h.2⟩
  · simp [a]
theorem flat_le {β : Type} (f : β → E3) : PySem.W.dataLe false (fun b => eFlat (f b)) = fun p q => le3 (f p) (f q) := by
  funext p q
  show (!PySem.W.dataLt (eFlat (f q)) (eFlat (f p))) = _
  rw [flat_lt]
  rfl
theorem nest_le {β : Type} (f : β → E3) : PySem.W.dataLe false (fun b => eNest (f b)) = fun p q => le3 (f p) (f q) := by
  funext p q
  show (!PySem.W.dataLt (eNest (f q)) (eNest (f p))) = _
  rw [nest_lt]
  rfl
theorem flat_alike {β : Type} (f : β → E3) (bs : List β) : PySem.W.AllAlike (bs.map fun b => eFlat (f b)) := PySem.W.AllAlike.of fun b b' => by simp [eFlat, PySem.W.alike, PySem.W.alikeAll]
theorem nest_alike {β : Type} (f : β → E3) (bs : List β) : PySem.W.AllAlike (bs.map fun b => eNest (f b)) := PySem.W.AllAlike.of fun b b' => by simp [eNest, PySem.W.alike, PySem.W.alikeAll]
theorem flat_able {β : Type} (f : β → E3) (bs : List β) : PySem.W.Sortable (bs.map fun b => eFlat (f b)) := PySem.W.Sortable.tuples fun b => ⟨_, _, rfl⟩
theorem nest_able {β : Type} (f : β → E3) (bs : List β) : PySem.W.Sortable (bs.map fun b => eNest (f b)) := PySem.W.Sortable.tuples fun b => ⟨_, _, rfl⟩
theorem flat_deep (p : E3) : (eFlat p).depth ≤ 60 := by
  show max 0 (max 0 (max 0 0)) + 1 ≤ 60
  decide
theorem nest_deep (p : E3) : (eNest p).depth ≤ 60 := by
  show max 0 (max (max 0 (max 0 0) + 1) 0) + 1 ≤ 60
  decide
/-- sorted without anything twice: one list alone -/
theorem sorted3_uniq {xs ys : List E3} (hp : xs.Perm ys) (h1 : xs.Pairwise (fun p q => le3 p q = true)) (h2 : ys.Pairwise (fun p q => le3 p q = true)) : xs = ys := by
  refine hp.eq_of_pairwise (fun p q _ _ a b => ?_) h1 h2
  unfold le3 at a b
  simp only [Bool.not_eq_true', decide_eq_false_iff_not] at a b
  exact lex3_tri b a
theorem sort3_pw (xs : List E3) : (xs.mergeSort le3).Pairwise (fun p q => le3 p q = true) := List.pairwise_mergeSort (fun p q r => le3_tr p q r) (fun p q => le3_tot p q) xs
theorem sort3_map {β : Type} (f : β → E3) (bs : List β) : (bs.mergeSort fun p q => le3 (f p) (f q)).map f = (bs.map f).mergeSort le3 := by
  refine sorted3_uniq (((List.mergeSort_perm _ _).map f).trans (List.mergeSort_perm _ _).symm) ?_ (sort3_pw _)
  rw [List.pairwise_map]
  exact List.pairwise_mergeSort (le := fun p q => le3 (f p) (f q)) (fun p q r => le3_tr (f p) (f q) (f r)) (fun p q => le3_tot (f p) (f q)) bs
end SH
set_option Elab.async false
set_option linter.all false
set_option maxRecDepth 100000
set_option maxHeartbeats 4000000
/-! sets of numbers and texts: made, walked, sorted -/
namespace SH
open PySem PySem.Spec PyProof.Rows L2
def keyM (e : Int × Value) : Key := match e.2 with | .int k _ => .inl k | .str x _ => .inr x | _ => .inl 0
def GoodM (w : World) (e : Int × Value) : Prop := ∃ k : Key, RelV (kV k) e.2 ∧ e.1 = keyH w k
theorem keyM_of {h : Int} {k : Key} {u : Value} (r : RelV (kV k) u) : keyM (h, u) = k := by
  cases k with
  | inl i =>
    obtain ⟨t, rfl⟩ := r
    rfl
  | inr x =>
    obtain ⟨t, rfl⟩ := r
    rfl
/-- the set of keys at a: S its members, n their number; its table rises and can be walked -/
def SetM (w : World) (h : Heap) (a : Addr) (S : Key → Bool) (n : Nat) : Prop :=
  ∃ o es ep t, h.get? a = some o ∧ o.ExactSet ∧ o.data = .set es ep t ∧ (∀ e ∈ es.toList, GoodM w e) ∧ (es.toList.map keyM).Nodup ∧ (∀ k, S k = true ↔ k ∈ es.toList.map keyM) ∧
    es.size < scanBound ∧ t.fits es.size = true ∧ es.size = n ∧ Ris t.place.toList ∧ (w.params.followText "set-order" = true ∨ t.led = true)
section
variable {P : Program} {w : World} {h h' : Heap} {a : Addr} {S : Key → Bool} {n : Nat}
theorem SetM.at (R : SetM w h a S n) (k : ∀ o, h.get? a = some o → h'.get? a = some o) : SetM w h' a S n := by
  obtain ⟨o, es, ep, t, ho, r⟩ := R
  exact ⟨o, es, ep, t, k o ho, r⟩
theorem SetM.lt (R : SetM w h a S n) : a < h.objs.size := by
  obtain ⟨o, es, ep, t, ho, r⟩ := R
  exact Heap.lt_size ho
theorem goodM_elems {l : List (Int × Value)} (g : ∀ e ∈ l, GoodM w e) : ElemsOf (mixKind P w) l := fun e he => by
  obtain ⟨k, h1, h2⟩ := g e he
  exact ⟨⟨k, kV_is h1, h2⟩, key_scan h1⟩
theorem goodM_is {e : Int × Value} (g : GoodM w e) (k : Key) : (mixKind P w).is k e.2 = true ↔ keyM e = k := by
  obtain ⟨k0, h1, _⟩ := g
  have e0 : keyM e = k0 := by
    obtain ⟨x, u⟩ := e
    exact keyM_of h1
  rw [e0]
  constructor
  · intro h
    exact (mixKind P w).inj _ _ _ (kV_is h1) h
  · rintro rfl
    exact kV_is h1
theorem goodM_mem {l : List (Int × Value)} (g : ∀ e ∈ l, GoodM w e) (k : Key) : k ∈ l.map keyM ↔ ∃ e ∈ l, (mixKind P w).is k e.2 = true := by
  rw [List.mem_map]
  constructor
  · rintro ⟨e, he, q⟩
    exact ⟨e, he, (goodM_is (g e he) k).2 q⟩
  · rintro ⟨e, he, q⟩
    exact ⟨e, he, (goodM_is (g e he) k).1 q⟩
theorem SetM.setOf (R : SetM w h a S n) : h.SetOf (mixKind P w) a S n := by
  obtain ⟨o, es, ep, t, ho, hx, hd, g, nd, hm, hb, hf, hn, _⟩ := R
  exact ⟨o, es, ep, t, ho, hx, hd, goodM_elems g, fun k => (hm k).trans (goodM_mem g k), hb, hf, hn⟩
end
section
variable {P : Program} {w : World} {A : Around} {E : Value → Shared → Prop} {s : Shared} {a : Addr} {S : Key → Bool} {n : Nat}
theorem setM_add_tail {g : Bool → Sem Unit} (hg : ∀ (b : Bool) (s₁ : Shared) (Q' : Unit → Shared → Prop), Q' () s₁ → wpAny (model P w) A (g b) Q' E s₁)
    {o : Obj} {es : Array (Int × Value)} {ep : Nat} {t : SetTable} (ho : s.heap.get? a = some o) (hex : o.ExactSet) (hd : o.data = .set es ep t)
    {es1 : Array (Int × Value)} {t2 : SetTable} {S' : Key → Bool} (g1 : ∀ e ∈ es1.toList, GoodM w e) (nd1 : (es1.toList.map keyM).Nodup) (m1 : ∀ k, S' k = true ↔ k ∈ es1.toList.map keyM)
    (hb1 : es1.size < scanBound) (hf2 : t2.fits es1.size = true) (hr : Ris t2.place.toList) (hl : w.params.followText "set-order" = true ∨ t2.led = true) {wasDummy : Bool} {R : Option Bool → Shared → Prop}
    (hR : ∀ h', Heap.SameBut a s.heap h' → SetM w h' a S' es1.size → R (some true) { s with heap := h' }) :
    wpAny (model P w) A (do
        storeSet a es1 t2
        if (!wasDummy && t2.tooFull) = true then do
            g (relayAll t2 es1 (SetTable.grown es1.size)).2.2
            storeSet a (relayAll t2 es1 (SetTable.grown es1.size)).1 (relayAll t2 es1 (SetTable.grown es1.size)).2.1
            pure (some true)
          else pure (some true)) R E s := by
  refine wpAny_bind (wpAny_storeSet_of ho hd ?_ (fits_of_scanBound hb1))
  have ho1 := store_at (es' := es1) (t' := t2) ho hd
  have sb1 := Heap.SameBut.update s.heap a (Obj.putSet es1 t2)
  split
  · have pm := relayAll_perm t2 es1 (SetTable.grown es1.size)
    have hf3 := relayAll_fits t2 es1 (SetTable.grown es1.size)
    have hr3 := relayAll_ris t2 es1 (SetTable.grown es1.size)
    have hl3 := relayAll_led t2 es1 (SetTable.grown es1.size)
    generalize relayAll t2 es1 (SetTable.grown es1.size) = Z at pm hf3 hr3 hl3 ⊢
    obtain ⟨es2, t3, gave⟩ := Z
    dsimp only at pm hf3 hr3 hl3 ⊢
    have hsz : es2.size = es1.size := by rw [← Array.length_toList, pm.length_eq, Array.length_toList]
    have hb2 : es2.size < scanBound := by rw [hsz]; exact hb1
    refine wpAny_bind (hg _ _ _ ?_)
    refine wpAny_bind (wpAny_storeSet_of ho1 rfl ?_ (fits_of_scanBound hb2))
    have ho2 := store_at (es' := es2) (t' := t3) ho1 rfl
    refine wpAny_pure (hR _ (sb1.trans (Heap.SameBut.update _ a _)) ?_)
    exact ⟨_, es2, _, t3, ho2, hex, rfl, fun e he => g1 e (pm.mem_iff.mp he), (pm.map keyM).nodup_iff.mpr nd1, fun k => (m1 k).trans (pm.map keyM).mem_iff.symm, hb2, hf3, hsz, hr3,
      hl.imp id fun z => by rw [hl3]; exact z⟩
  · exact wpAny_pure (hR _ sb1 ⟨_, es1, _, t2, ho1, hex, rfl, g1, nd1, m1, hb1, hf2, rfl, hr, hl⟩)
theorem setM_add_hashed {k : Key} {u : Value} {Q : Bool → Shared → Prop} (ru : RelV (kV k) u) (R : SetM w s.heap a S n) (room : n + 1 < scanBound)
    (hQ : ∀ h', Heap.SameBut a s.heap h' → SetM w h' a (fun j => S j || decide (j = k)) (if S k = true then n else n + 1) → Q (!S k) { s with heap := h' }) :
    wpAny (model P w) A (setAddHashed a u ((mixKind P w).hash k)) Q E s := by
  obtain ⟨o, es, ep, t, ho, hex, hd, g, nd, hm, hb, hf, hn, hr, hl⟩ := R
  have hkey : (mixKind P w).is k u = true := kV_is ru
  have hsc : u.scannable = true := key_scan ru
  have hel : ElemsOf (mixKind P w) es.toList := goodM_elems g
  unfold setAddHashed setAddHashedIn
  refine wpAny_holding (wpAny_bind (wpAny_setState_of ho hd hf ?_))
  dsimp only
  rw [byScan_of hsc hb hel]
  simp only [↓reduceIte]
  unfold setAddByScan
  refine wpAny_bind ?_
  refine wpAny_bind (wpAny_rule ?_)
  refine wpAny_bind (wpAny_setScan_of hkey ho hd hf hel ?_)
  cases hfi : List.findIdx? (fun e => (mixKind P w).is k e.2) es.toList with
  | some j =>
    dsimp only
    obtain ⟨hj, pj, _⟩ := List.findIdx?_eq_some_iff_getElem.mp hfi
    have hSk : S k = true := (hm k).2 ((goodM_mem (P := P) (w := w) g k).2 ⟨es.toList[j], List.getElem_mem hj, pj⟩)
    refine wpAny_pure (wpAny_pure ?_)
    have q := hQ s.heap (Heap.SameBut.refl a s.heap) ⟨o, es, ep, t, ho, hex, hd, g, nd, fun i => by
      rw [Bool.or_eq_true, decide_eq_true_eq, ← hm i]
      exact ⟨fun z => z.elim id (fun e => e ▸ hSk), .inl⟩, hb, hf, by rw [if_pos hSk]; exact hn, hr, hl⟩
    rw [hSk] at q
    exact q
  | none =>
    dsimp only
    have hnk : k ∉ es.toList.map keyM := fun z => by
      obtain ⟨e, he, q⟩ := (goodM_mem (P := P) (w := w) g k).1 z
      have c := List.findIdx?_eq_none_iff.mp hfi e he
      rw [q] at c
      cases c
    have hSk : S k = false := by
      cases q : S k with
      | false => rfl
      | true => exact absurd ((hm k).1 q) hnk
    have hgw : ∀ (b : Bool) {s₁ : Shared} {Q' : Unit → Shared → Prop}, Q' () s₁ → wpAny (model P w) A (match b with | true => rule "set.scan.the-table-gave-way" | false => pure ()) Q' E s₁ :=
      fun b s₁ Q' q => by cases b <;> first | exact wpAny_pure q | exact wpAny_rule q
    have pm := layNew_perm t es ((mixKind P w).hash k) u
    have hf1 := layNew_fits t es ((mixKind P w).hash k) u
    have hr1 := layNew_ris t es ((mixKind P w).hash k) u hr
    have hl1 := layNew_led t es ((mixKind P w).hash k) u
    generalize layNew t es ((mixKind P w).hash k) u = Z at pm hf1 hr1 hl1 ⊢
    obtain ⟨es1, t1, wasDummy, gave⟩ := Z
    dsimp only at pm hf1 hr1 hl1 ⊢
    rw [Array.toList_push] at pm
    have pc : es1.toList.Perm (((mixKind P w).hash k, u) :: es.toList) := pm.trans (List.perm_append_singleton _ _)
    have pk : (es1.toList.map keyM).Perm (k :: es.toList.map keyM) := by
      have q := pc.map keyM
      rw [List.map_cons, keyM_of ru] at q
      exact q
    have g1 : ∀ e ∈ es1.toList, GoodM w e := fun e he => by
      rcases List.mem_cons.mp (pc.mem_iff.mp he) with z | z
      · rw [z]; exact ⟨k, ru, rfl⟩
      · exact g e z
    have nd1 : (es1.toList.map keyM).Nodup := pk.nodup_iff.mpr (List.nodup_cons.mpr ⟨hnk, nd⟩)
    have m1 : ∀ i, (S i || decide (i = k)) = true ↔ i ∈ es1.toList.map keyM := fun i => by
      rw [Bool.or_eq_true, decide_eq_true_eq, hm i, pk.mem_iff, List.mem_cons]
      exact Or.comm
    have hsz : es1.size = n + 1 := by rw [← Array.length_toList, pc.length_eq, List.length_cons, Array.length_toList, hn]
    have hb1 : es1.size < scanBound := by rw [hsz]; exact room
    have hled : w.params.followText "set-order" = true ∨ t1.led = true := hl.imp id fun z => by rw [hl1]; exact z
    have fin : ∀ h', Heap.SameBut a s.heap h' → SetM w h' a (fun j => S j || decide (j = k)) es1.size → Q true { s with heap := h' } := fun h' sb r => by
      have q := hQ h' sb
      rw [hSk] at q
      rw [hsz] at r
      exact q r
    refine wpAny_bind (hgw _ ?_)
    split
    · refine wpAny_bind ?_
      rw [hashByValue_scannable 8 hsc]
      refine wpAny_pure ?_
      refine setM_add_tail ?_ ho hex hd g1 nd1 m1 hb1 ?_ ?_ ?_ ?_
      · intro b s₁ Q' q; cases b <;> first | exact wpAny_pure q | exact wpAny_rule q
      · first | (split <;> first | exact hf1 | exact SetTable.fits_plain_off hf1) | exact hf1
      · first | (split <;> exact hr1) | exact hr1
      · first | (split <;> exact hled) | exact hled
      · intro h' sb r; dsimp only; exact wpAny_pure (fin h' sb r)
    · refine wpAny_bind (wpAny_pure ?_)
      simp only [↓reduceIte]
      refine setM_add_tail ?_ ho hex hd g1 nd1 m1 hb1 hf1 hr1 hled ?_
      · intro b s₁ Q' q; cases b <;> first | exact wpAny_pure q | exact wpAny_rule q
      · intro h' sb r; dsimp only; exact wpAny_pure (fin h' sb r)
/-- found.add(k) -/
theorem setM_add {k : Key} {u : Value} {Q : Value → Shared → Prop} (ru : RelV (kV k) u) (R : SetM w s.heap a S n) (room : n + 1 < scanBound)
    (hQ : ∀ h', Heap.SameBut a s.heap h' → SetM w h' a (fun j => S j || decide (j = k)) (if S k = true then n else n + 1) → Q .none { s with heap := h', toks := s.toks + 1 }) :
    wpAny (model P w) A (call (.builtin "set.add") [.ref a, u]) Q E s := by
  have hS : s.heap.SetOf (mixKind P w) a S n := R.setOf
  refine wpAny_call_entry F.slot_set_add hS.typeIs F.entry_set_add ?_ (F.args_set_add_2 _ _)
  unfold Builtin.«set.add» Builtin.Frozenset.oneOther
  simp only [List.isEmpty_nil, bind_assoc]
  unfold Builtin.Frozenset.addrOf setAdd
  refine wpAny_bind (wpAny_pure ?_)
  try dsimp only
  refine wpAny_bind (wpAny_pure ?_)
  try dsimp only
  refine wpAny_bind ?_
  refine wpAny_holding ?_
  refine wpAny_bind ((mixKind P w).pyHash (kV_is ru) ?_)
  refine setM_add_hashed (s := { s with toks := s.toks + 1 }) ru R room fun h' sb r => ?_
  show wpAny _ _ (ret Value.none) _ _ _
  exact wpAny_pure ⟨_, rfl, hQ h' sb r⟩
theorem setM_fresh {h : Heap} (w : World) : SetM w (h.push { cls := .type "set", dict := none, data := .set #[] 0 (.fresh 0 0 (!w.params.followText "set-order")) }) h.objs.size (fun _ => false) 0 :=
  ⟨_, #[], 0, _, Heap.get?_push_size _ rfl, ⟨rfl, rfl, rfl⟩, rfl, (fun e he => by simp at he), (by simp), (fun k => by simp), (by decide), (by rfl), rfl, List.Pairwise.nil, by
    show _ ∨ (!w.params.followText "set-order") = true
    cases w.params.followText "set-order"
    · exact .inr rfl
    · exact .inl rfl⟩
end
/-- the set of keys at a, tracked -/
def SetMO (w : World) (a : Addr) (S : Key → Bool) (n : Nat) : HO := .ext fun h => SetM w h a S n
theorem setMO_new {w : World} {P : Program} {H : Hp} {h : Heap} {a : Addr} {S : Key → Bool} {n : Nat} (R : SetM w h a S n) : ObjOk P w H h a (SetMO w a S n) := by
  have ⟨o, _, _, _, ho, _⟩ := R
  exact ⟨R, ⟨o, ho⟩, fun h1 h2 p k => SetM.at p k⟩
section
variable {X : Cx}
theorem setMO_get {pins : List (Addr × Obj)} {σ : L2.St} {H : Hp} {s : Shared} {a : Addr} {S : Key → Bool} {n : Nat} (I : Inv X pins σ H s) (ha : H a = some (SetMO X.w a S n)) : SetM X.w s.heap a S n := (I.hok a _ ha).1
theorem addM_ok {pins : List (Addr × Obj)} {σ : L2.St} {H : Hp} {s : Shared} {E : Value → Shared → Prop} {D : Addr} {S : Key → Bool} {n : Nat} {k : Key} {u : Value} {Q : Value → Shared → Prop} (ru : RelV (kV k) u) (I : Inv X pins σ H s) (hD : H D = some (SetMO X.w D S n)) (room : n + 1 < scanBound)
    (h : ∀ s', Inv X pins σ (upd H D (SetMO X.w D (fun j => S j || decide (j = k)) (if S k = true then n else n + 1))) s' → Q .none s') : wpAny (model X.prog X.w) X.A (call (.builtin "set.add") [.ref D, u]) Q E s := by
  have R := setMO_get I hD
  refine setM_add ru R room fun h' sb new => ?_
  have he : ∃ u, h'.get? D = some u := by
    have ⟨o, _, _, _, ho, _⟩ := new
    exact ⟨o, ho⟩
  exact h _ (I.write (e := D) (t' := s.toks + 1) (by rw [hD]; trivial) (.inl rfl) (fun b u hb hu => (sb.2 b hb).trans hu) he (setMO_new new))
/-! ### its members, in some order -/
theorem setM_out {w : World} {es : Array (Int × Value)} (g : ∀ e ∈ es.toList, GoodM w e) {out : List Value} (hp : out.Perm (es.toList.map (·.2))) : ∃ ks : List Key, Vals (ks.map kV) out ∧ ks.Perm (es.toList.map keyM) := by
  have key : ∀ v ∈ out, ∃ k : Key, RelV (kV k) v := fun v hv => by
    obtain ⟨e, he, q⟩ := List.mem_map.mp (hp.mem_iff.mp hv)
    obtain ⟨k, h1, _⟩ := g e he
    exact ⟨k, q ▸ h1⟩
  refine ⟨out.map fun v => keyM (0, v), ?_, ?_⟩
  · have go : ∀ l : List Value, (∀ v ∈ l, ∃ k : Key, RelV (kV k) v) → Vals ((l.map fun v => keyM (0, v)).map kV) l := by
      intro l
      induction l with
      | nil => exact fun _ => .nil
      | cons v r ih =>
        intro h
        obtain ⟨k, hk⟩ := h v (List.mem_cons_self ..)
        refine .cons ?_ (ih fun u hu => h u (List.mem_cons_of_mem _ hu))
        show RelV (kV (keyM (0, v))) v
        rw [keyM_of hk]
        exact hk
    exact go out key
  · have q := hp.map fun v => keyM (0, v)
    rw [List.map_map] at q
    exact q
theorem each_of_map {α : Type} (f : α → V) : ∀ {l : List α} {out : List Value}, Vals (l.map f) out → PySem.W.EachIs (fun v z => RelV (f z) v) out l
  | [], _, .nil => .nil
  | _ :: _, _, .cons r t => .cons r (each_of_map f t)
theorem map_of_each {α : Type} (f : α → V) : ∀ {l : List α} {out : List Value}, PySem.W.EachIs (fun v z => RelV (f z) v) out l → Vals (l.map f) out
  | _, _, .nil => .nil
  | _, _, .cons r t => .cons r (map_of_each f t)
/-- sorted(a set): a new list of the members by what they read as -/
def rSortM (w : World) : List V → Hp → VK → Prop := fun vs H Q => ∃ (α : Type) (enc : α → PyData) (val : α → Key) (a : Addr) (S : Key → Bool) (n : Nat), vs = [.ref a] ∧ H a = some (SetMO w a S n) ∧
  (∀ z, (enc z).depth ≤ 60 ∧ ∀ (h : Heap) (v : Value), RelV (kV (val z)) v → Reads h v (enc z) []) ∧ (∀ k, S k = true → ∃ z, val z = k) ∧ (∀ l : List α, PySem.W.AllAlike (l.map enc) ∧ PySem.W.Sortable (l.map enc)) ∧
  ∀ (l : List α) (p : Addr), (l.map val).Nodup → (∀ k, S k = true ↔ k ∈ l.map val) → l.length = n → H p = none → Q (.ref p) (upd H p (.lst ((l.mergeSort (PySem.W.dataLe false enc)).map fun z => kV (val z))))
theorem pick {α β : Type} (f : α → β) : ∀ ks : List β, (∀ k ∈ ks, ∃ z, f z = k) → ∃ l : List α, l.map f = ks
  | [], _ => ⟨[], rfl⟩
  | k :: r, h => by
    obtain ⟨z, hz⟩ := h k (List.mem_cons_self ..)
    obtain ⟨l, hl⟩ := pick f r fun k hk => h k (List.mem_cons_of_mem _ hk)
    exact ⟨z :: l, by rw [List.map_cons, hz, hl]⟩
theorem cr_sortM (hc : X.calm = true) (hu : X.A.units + 64 < cLine) : CallR X (.builtin "sorted") (rSortM X.w) := by
  intro pins s τ H vs us Q I r h
  obtain ⟨α, enc, val, a, S, n, rfl, hA, hd, hv, hal, q⟩ := h
  obtain ⟨u, rfl, ru⟩ := vals1 r
  obtain rfl : u = Value.ref a := ru
  obtain ⟨o, es, ep, t, ho, hex, hdt, g, nd, hm, hb, hf, hn, hr, hl⟩ := setMO_get I hA
  refine Calls.call_function_entry kind_sorted plain_sorted entry_sorted (args_sorted1 _) ?_
  unfold Builtin.«sorted»
  refine wpAny_bind (m := checkCount "sorted" 1 1 _) (wpAny_pure ?_)
  refine wpAny_bind (collect_set (A := X.A.in1) (I.ok.hd hc) ⟨o, ho, hex.1, hdt⟩ hf hb hr hl fun s1 out k1 hz g1 o1 pm => ?_)
  obtain ⟨ks, hks, pk⟩ := setM_out g pm
  obtain ⟨l, rfl⟩ := pick val ks fun k hk => hv k ((hm k).mpr (pk.mem_iff.mp hk))
  have hol : out.length = n := by rw [pm.length_eq, List.length_map, Array.length_toList]; exact hn
  have hln : l.length = n := by
    have := hks.length
    rw [List.length_map, List.length_map] at this
    exact this.trans hol
  have hsl : out.length ≤ sizeLine := by rw [hol, ← hn]; exact fits_of_scanBound hb
  rw [List.map_map] at hks
  have e := each_of_map _ hks
  refine wpAny_bind (wpAny_newList ?_ hsl)
  have hoL : (s1.heap.push (seqObj "list" out.toArray 0)).get? s1.heap.objs.size = some (seqObj "list" out.toArray 0) := Heap.get?_push_size _ rfl
  have er : PySem.W.EachIs (fun v z => ∃ as, Reads (s1.heap.push (seqObj "list" out.toArray 0)) v (enc z) as ∧ s1.heap.objs.size ∉ as) out l := e.mono fun v z r => ⟨[], (hd z).2 _ v r, by simp⟩
  refine wpAny_bind (wpAny_holding (PySem.W.list_sort_data (enc := enc) hoL e er (hal l).1 (hal l).2 (by rw [hln, ← hol]; exact hsl) (fun z hz' => ?_) (fun out2 ho2 eo => ?_)))
  · have := (hd z).1
    show X.A.in1.units + 1 + (enc z).depth < cLine
    have e2 : X.A.in1.units = X.A.units + 1 := rfl
    omega
  · obtain ⟨c, hcc⟩ := sortedHeap_at (vs := out) (out := out2.toArray) hoL
    have kk : ∀ b x, s1.heap.get? b = some x → (sortedHeap (s1.heap.push (seqObj "list" out.toArray 0)) s1.heap.objs.size out out2.toArray).get? b = some x := fun b x q1 => by
      have hlt := Heap.lt_size q1
      rw [sortedHeap_old (Nat.ne_of_lt hlt) (by rw [size_push']; exact Nat.lt_succ_of_lt hlt)]
      exact Heap.get?_push_of_some _ q1
    have rv := map_of_each _ eo
    have I1 : Inv X pins τ H s1 := I.call' (ch := []) o1 (Un.kept k1) (I.hok.kept k1) (by rw [g1]; exact I.bare) (fun _ z => nomatch z)
    have J : Inv X pins τ (upd H s1.heap.objs.size (.lst ((l.mergeSort (PySem.W.dataLe false enc)).map fun z => kV (val z)))) { s1 with heap := sortedHeap (s1.heap.push (seqObj "list" out.toArray 0)) s1.heap.objs.size out out2.toArray, toks := s1.toks } :=
      I1.laid (t' := s1.toks) kk (Nat.le_refl _) ⟨by rw [List.length_map, List.length_mergeSort, hln, ← hol]; exact hsl, out2, c, rv, hcc⟩
    refine wpAny_pure ⟨_, rfl, ?_⟩
    exact ⟨.ref s1.heap.objs.size, _, J, rfl, q l _ (by rw [pk.nodup_iff]; exact nd) (fun k => by rw [hm k, pk.mem_iff]) hln (I.hok.fresh hz)⟩
theorem nodup_of_map {α β : Type} (f : α → β) : ∀ {l : List α}, (l.map f).Nodup → l.Nodup
  | [], _ => List.nodup_nil
  | x :: r, h => by
    rw [List.map_cons, List.nodup_cons] at h
    exact List.nodup_cons.mpr ⟨fun m => h.1 (List.mem_map_of_mem m), nodup_of_map f h.2⟩
/-- sorted(a set of texts) -/
def rSortMS (w : World) : List V → Hp → VK → Prop := fun vs H Q => ∃ (a : Addr) (S : Key → Bool) (n : Nat), vs = [.ref a] ∧ H a = some (SetMO w a S n) ∧ (∀ k, S k = true → ∃ z : Str, k = .inr z) ∧
  ∀ (l : List Str) (p : Addr), l.Nodup → l.Pairwise (fun x y => x.cps.toList ≤ y.cps.toList) → (∀ z : Str, z ∈ l ↔ S (.inr z) = true) → l.length = n → H p = none → Q (.ref p) (upd H p (.lst (l.map V.str)))
theorem cr_sortMS (hc : X.calm = true) (hu : X.A.units + 64 < cLine) : CallR X (.builtin "sorted") (rSortMS X.w) := by
  intro pins s τ H vs us Q I r h
  obtain ⟨a, S, n, rfl, hA, hS, q⟩ := h
  have inj : ∀ x y : Str, (Sum.inr x : Key) = .inr y → x = y := fun x y e => Sum.inr.inj e
  refine cr_sortM hc hu pins s τ H _ us Q I r ⟨Str, PyData.str, fun z => .inr z, a, S, n, rfl, hA, fun z => ⟨by show 0 ≤ 60; decide, fun h v r => ?_⟩, fun k hk => ?_, fun l => ⟨PySem.W.AllAlike.of fun b b' => by simp [PySem.W.alike], ?_⟩, fun l p nd hm hn np => ?_⟩
  · obtain ⟨t, rfl⟩ := r
    exact .str z t
  · obtain ⟨z, e⟩ := hS k hk
    exact ⟨z, e.symm⟩
  · exact PySem.W.Sortable.others fun b => ⟨by simp, fun xs => by simp⟩
  · have pm := List.mergeSort_perm l (PySem.W.dataLe false PyData.str)
    refine q (l.mergeSort (PySem.W.dataLe false PyData.str)) p ?_ ?_ (fun z => ?_) (by rw [pm.length_eq, hn]) np
    · rw [pm.nodup_iff]
      exact nodup_of_map _ nd
    · have e : PySem.W.dataLe false PyData.str = fun x y : Str => !decide (y.cps.toList < x.cps.toList) := by
        funext x y
        show (!PySem.W.dataLt (.str y) (.str x)) = _
        rw [PySem.W.dataLt_str]
      have hp := List.pairwise_mergeSort (le := fun x y : Str => !decide (y.cps.toList < x.cps.toList)) (fun x y z a b => ?_) (fun x y => ?_) l
      · rw [e]
        refine hp.imp fun {x y} a => ?_
        exact List.not_lt.mp fun z => by rw [decide_eq_true z] at a; cases a
      · have a' : x.cps.toList ≤ y.cps.toList := List.not_lt.mp fun z => by rw [decide_eq_true z] at a; cases a
        have b' : y.cps.toList ≤ z.cps.toList := List.not_lt.mp fun z => by rw [decide_eq_true z] at b; cases b
        rw [decide_eq_false (List.not_lt.mpr (List.le_trans a' b'))]
        rfl
      · rcases List.le_total x.cps.toList y.cps.toList with a | a
        · rw [decide_eq_false (List.not_lt.mpr a)]
          rfl
        · rw [decide_eq_false (List.not_lt.mpr a), Bool.not_false, Bool.or_true]
    · rw [pm.mem_iff, hm (.inr z)]
      exact ⟨fun m => List.mem_map_of_mem m, fun m => by obtain ⟨y, hy, e⟩ := List.mem_map.mp m; exact inj _ _ e ▸ hy⟩
/-! ### sorted(texts, key=len) -/
theorem sorted_len {l : Addr} {zs : List Str} {Q : Value → Shared → Prop} {pins : List (Addr × Obj)} {τ : L2.St} {H : Hp} {s : Shared} (I : Inv X pins τ H s) (hl : SqL X.K H l (zs.map V.str)) (hu : X.A.units + 64 < cLine) (hz : ∀ z ∈ zs, z.length ≤ sizeLine)
    (hQ : ∀ (p : Addr) (s' : Shared), H p = none → Inv X pins τ (upd H p (.lst ((zs.mergeSort fun x y => decide (x.length ≤ y.length)).map V.str))) s' → Q (.ref p) s') :
    wpAny (model X.prog X.w) X.A (call (.builtin "sorted") [.ref l] [(Str.ofString "key", .builtin "len")]) Q X.xe s := by
  obtain ⟨its, rv, hl, hZ⟩ := I.list hl
  have e := each_of_map V.str rv
  rw [List.length_map] at hZ
  refine PySem.W.sorted_key_data (b := false) (R := fun v z => RelV (V.str z) v) (fun z : Str => PyData.int z.length) hl.isList e (PySem.W.AllAlike.of fun b b' => by simp [PySem.W.alike]) (PySem.W.Sortable.others fun b => ⟨by simp, fun xs => by simp⟩) hZ
    (fun x hx => by show X.A.units + 2 + 0 < cLine; omega) (PyProof.Rows.ksk_s1 _ _) (fun _ => PyProof.Rows.ksk_l1 _ _) (fun x => PyProof.Rows.ksk_t4 "len" x) (fun v x hv hx h tk k => ?_) (fun out c h' tk k fr hp hlen eo => ?_)
  · obtain ⟨t, rfl⟩ := hv
    have hl63 := line63
    have hzx := hz x hx
    exact len_str (by omega) ⟨h, _, rfl, fun _ _ e => e, .int _ _⟩
  · have e2 : PySem.W.dataLe false (fun z : Str => PyData.int z.length) = fun x y : Str => decide (x.length ≤ y.length) := by
      funext x y
      show (!PySem.W.dataLt (.int y.length) (.int x.length)) = _
      rw [PySem.W.dataLt_int]
      by_cases c : x.length ≤ y.length
      · rw [decide_eq_true c, decide_eq_false (by omega)]
        rfl
      · rw [decide_eq_false c, decide_eq_true (by omega)]
        rfl
    rw [e2] at eo
    have hs : s.heap.objs.size ≤ s.heap.objs.size + 1 := Nat.le_succ _
    exact hQ _ _ (I.hok.fresh hs) (I.laid (t' := tk) k hs ⟨by rw [List.length_map, List.length_mergeSort]; exact hZ, out, c, map_of_each V.str eo, hp⟩)
/-- sorted(x, key=len), x a list of texts -/
def rSortLen (K : PySem.W.Frag) : List V → Hp → VK → Prop := fun vs H Q => ∃ (a : Addr) (zs : List Str), vs = [.ref a] ∧ SqL K H a (zs.map V.str) ∧ (∀ z ∈ zs, z.length ≤ sizeLine) ∧
  ∀ p : Addr, H p = none → Q (.ref p) (upd H p (.lst ((zs.mergeSort fun x y => decide (x.length ≤ y.length)).map V.str)))
def tSLen (r : List V → Hp → VK → Prop) (t : TA) : TE := fun σ H Q => t σ H fun vs H1 => r vs H1 Q
theorem pe_sortLenK {K : PySem.W.Frag} {e : Expr} {t : TA} {p kp pos : Pos} (hu : X.A.units + 64 < cLine) (hg : Gl X "sorted") (hm : X.mg "sorted" = none) (hgl : Gl X "len") (hml : X.mg "len" = none) (ha : PA X [e] t) {kpos : Pos}
    (he : backTo pos (starEach [e] X.env) = [(false, eval e X.env)] := by rfl) (hK : X.K = K := by rfl) :
    PE X (.Call (.Name "sorted" p) [e] [⟨some "key", .Name "len" kp, kpos⟩] pos) (tSLen (rSortLen K) t) := by
  subst hK
  refine ⟨fun pins s σ H Q I h => ?_⟩
  refine wpAny_Call_Name_kw (ld_blt I hg hm (u := .builtin "sorted") (by decide +kernel) ?_ (by decide) (by decide))
  refine PyProof.Rows.callWith_kw (thn (ha.run pos pins s σ H _ I h) fun us s1 ⟨vs, H1, I1, r1, q1⟩ => ?_) he (by rw [he]; rfl) (by rfl) (by rfl)
  obtain ⟨a, zs, rfl, hA, hz, q⟩ := q1
  obtain ⟨u, rfl, ru⟩ := vals1 r1
  obtain rfl : u = Value.ref a := ru
  show wpAny _ _ (evalAll ((do let v ← eval (.Name "len" kp) X.env; standAt pos; pure v) :: [])) _ _ s1
  refine wpAny_evalAll_cons (wpAny_bind (ld_blt I1 hgl hml (u := .builtin "len") (by decide +kernel) ?_ (by decide) (by decide)))
  refine wpAny_bind (wpAny_standAt (wpAny_pure (wpAny_evalAll_nil ?_)))
  exact sorted_len I1 hA hu hz fun p s2 np I2 => ⟨.ref p, _, I2, rfl, q p np⟩
end
end SH
set_option Elab.async false
set_option linter.all false
set_option maxRecDepth 100000
set_option maxHeartbeats 4000000
/-! comprehensions of any number of fors -/
namespace SH
open PySem PySem.Spec PyProof.Rows L2
/-- a turn's inner part: from slots and heap, what is wished of the heap behind it -/
abbrev TBd := L2.St → Hp → (Hp → Prop) → Prop
def BodyOk (X : Cx) (run : Sem PySem.Fin → Sem PySem.Fin) (bd : TBd) (vb : List Nat) : Prop :=
  ∀ (pins : List (Addr × Obj)) (s : Shared) (σ : L2.St) (H : Hp) (Nx : Hp → Prop) (c : Sem PySem.Fin) (Qc : PySem.Fin → Shared → Prop), Inv X pins σ H s → bd σ H Nx →
    (∀ s' H', Inv X pins (wipe σ vb) H' s' → Nx H' → wpAny (model X.prog X.w) X.A c Qc (fun _ _ => False) s') → wpAny (model X.prog X.w) X.A (run c) Qc (fun _ _ => False) s
/-- the turns of one for -/
def tTurns (J : It) (g : TG) (tt : TT) (vs : List Nat) (σw : L2.St) (bd : TBd) (Nx : Hp → Prop) (H0 : Hp) : Prop :=
  ∃ W : Nat → Nat → Hp → Prop, (∃ m, W 0 m H0) ∧ ∀ i m H, W i m H → (J.stop i H ∧ Nx H) ∨ (J.go i H ∧ ∃ Nx1 : Hp → Prop, (∀ H', Nx1 H' → ∃ m', m' < m ∧ W (i + 1) m' H') ∧
    ∀ x H', J.yld i H x H' → g x σw H' fun σ2 H2 => wipe σ2 vs = σw ∧ tt σ2 H2 fun b H3 => if b = true then bd σ2 H3 Nx1 else Nx1 H3)
/-- for tg in iter if ..: the inner part -/
def bFor (wi : TI) (g : TG) (tt : TT) (vs : List Nat) (bd : TBd) : TBd := fun σ H Nx => wi σ H fun J H1 => tTurns J g tt vs (wipe σ vs) bd Nx H1
/-- what a clause's turn runs -/
def clauseTurn (e : Expr) (k : Nat) (it acc : Value) (env : Env) (tg iter : Expr) (ifs : List Expr) (BODY : Sem PySem.Fin → Sem PySem.Fin) : Sem PySem.Fin := do
  standAt iter.pos
  match ← pyNext it with
  | none => pure (.done .next)
  | some v =>
    letOwnedTupleGo tg it v
    assign tg env v
    let mut ok := true
    for c in ifs do
      if ok then ok ← isTrue c env (eval c env)
    if ok then
      BODY (again (.compLoop e k it acc env))
    else again (.compLoop e k it acc env)
def innerRun (e : Expr) (k : Nat) (acc : Value) (env : Env) (iter : Expr) (c : Sem PySem.Fin) : Sem PySem.Fin := do
  let x ← eval iter env
  standAt iter.pos
  let x ← foldedSetIterable iter env x
  let _ ← runOwn (.compStart e k (← holding [x] (pyIter x)) acc env) env
  c
theorem wpAny_notedF {M : Model} {A : Around} {t : Sem PySem.Fin} {env : Env} {Q : PySem.Fin → Shared → Prop} {E : Value → Shared → Prop} {s : Shared} (h : wpAny M A t Q (fun _ _ => False) s) : wpAny M A (t.onRaise (fun x => do noteFrame x env; theTreesLotGoes x)) Q E s :=
  wpAny_noted (wpAny_mono h (fun _ _ q => q) fun _ _ z => z.elim)
theorem compStart_k {P : Program} {w : World} {A : Around} {e : Expr} {k : Nat} {it acc : Value} {env : Env} {R : Result → Shared → Prop} {s : Shared} (hcl : ((clausesOf e)[k]?).elim false (·.is_async != 0) = false) (hun : A.under (Code.compStart e k it acc env) = A) (hden : (model P w).den (Code.compStart e k it acc env) = ((compStart e k it acc env).onRaise (fun x => do noteFrame x env; standAt theWindowsPlace)))
    (h0 : codeAny (model P w) A (.compLoop e k it acc env) R s) (h : wpAny (model P w) A (pyIter it) (fun it' s' => codeAny (model P w) A (.compLoop e k it' acc env) R s') (notedBy (model P w) A env fun x s' => R (.error x) s') s) :
    codeAny (model P w) A (.compStart e k it acc env) R s := by
  refine codeAny_of_tree ?_
  have e1 : A.under (Code.compStart e k it acc env) = A := hun
  have e2 : (model P w).den (Code.compStart e k it acc env) = ((compStart e k it acc env).onRaise (fun x => do noteFrame x env; standAt theWindowsPlace)) := hden
  rw [e1, e2]
  refine wpAny_notedAt ?_
  unfold compStart
  simp only [hcl, Bool.false_eq_true, if_false]
  show wpAny _ _ (ask >>= _) _ _ s
  refine wpAny_bind (wpAny_askSetting (wpAny_ite ?_))
  split
  · first
      | exact wpAny_bind (wpAny_pure (wpAny_pure (And.intro rfl h0)))
      | exact wpAny_pure (And.intro rfl h0)
  · refine wpAny_bind (wpAny_rule ?_)
    have h2 : ∀ s', s' = s → wpAny (model P w) A (pyIter it >>= fun it' => again (.compLoop e k it' acc env)) (fun fin s' => match fin with | .done f => R (.ok f) s' | .again c' => c'.quiet = true ∧ codeAny (model P w) A c' R s') (notedBy (model P w) A env fun x s' => R (.error x) s') s' := fun s' es => by
      subst es
      exact wpAny_bind (wpAny_mono h (fun it' s' h' => wpAny_pure (And.intro rfl h')) fun _ _ x => x)
    cases (clausesOf e)[k]? with
    | none => first | exact h2 _ rfl | exact wpAny_bind (wpAny_pure (h2 _ rfl))
    | some g => first | exact wpAny_bind (wpAny_standAt (h2 _ rfl)) | exact wpAny_bind (wpAny_bind (wpAny_standAt (wpAny_pure (h2 _ rfl))))
section
variable {X : Cx} {e : Expr} {k : Nat} {acc : Value} {tg iter : Expr} {ifs : List Expr} {g : TG} {tt : TT} {vs vb : List Nat} {bd : TBd} {BODY : Sem PySem.Fin → Sem PySem.Fin} {wi : TI}
theorem wipe_sub {σ : L2.St} {vs vb : List Nat} (h : ∀ i ∈ vb, i ∈ vs) (j : Nat) (v : V) (e : (wipe σ vs)[j]? = some (some v)) : (wipe σ vb)[j]? = some (some v) := by
  obtain ⟨e1, e2⟩ := wipe_some e
  rw [wipe_out fun z => e2 (h j z)]
  exact e1
theorem loop_ok (hc : X.calm = true) (heq : ∀ it, (model X.prog X.w).den (Code.compLoop e k it acc X.env) = (clauseTurn e k it acc X.env tg iter ifs BODY).onRaise (fun x => do noteFrame x X.env; theTreesLotGoes x)) (hun : ∀ it, X.A.under (Code.compLoop e k it acc X.env) = X.A)
    (pg : PG X tg g) (pt : PTs X ifs tt) (hb : BodyOk X BODY bd vb) (hv : ∀ i ∈ vb, i ∈ vs) (hxe : X.xe = fun _ _ => False)
    {pins : List (Addr × Obj)} {s : Shared} {σw : L2.St} {H : Hp} {J : It} {fp : List Addr} {it : Addr} {tn : Nat → Heap → Prop} {Nx : Hp → Prop} {R : Result → Shared → Prop}
    (T : Turn X.prog X.w X.K tg J fp it tn) (I : Inv X pins σw H s) (st : tn 0 s.heap) (f : ∀ b ∈ fp, FpOk X pins H b) (h : tTurns J g tt vs σw bd Nx H)
    (hR : ∀ s' H', Inv X pins σw H' s' → Nx H' → R (.ok .next) s') :
    codeAny (model X.prog X.w) X.A (.compLoop e k (.ref it) acc X.env) R s := by
  obtain ⟨W, ⟨m0, w0⟩, turn⟩ := h
  have stat : ∀ {H' : Hp}, (∀ b ∈ fp, H' b = none) → ∀ b ∈ fp, FpOk X pins H' b := fun hn b hb => ⟨hn b hb, (f b hb).2⟩
  refine codeAny_loop rfl (fun n s' => ∃ i H', Inv X pins σw H' s' ∧ tn i s'.heap ∧ (∀ b ∈ fp, H' b = none) ∧ W i n H') (fun n s5 hI => ?_) m0 ⟨0, H, I, st, fun b hb => (f b hb).1, w0⟩
  obtain ⟨i, H5, I5, st5, n5, w5⟩ := hI
  have pgr := pg.run
  have ptr := pt.run
  rw [hxe] at pgr ptr
  rw [hun, heq]
  refine wpAny_notedF ?_
  unfold clauseTurn
  refine wpAny_bind (wpAny_standAt ?_)
  rcases turn i n H5 w5 with ⟨stop, qq⟩ | ⟨go, Nx1, hNx, step⟩
  · refine wpAny_bind (thnF (T.done X rfl rfl rfl hc i pins s5 σw H5 (fun _ _ => False) I5 (stat n5) st5 stop) fun r s6 ⟨hr, I6⟩ => ?_)
    subst hr
    exact wpAny_pure (hR s6 H5 I6 qq)
  · refine wpAny_bind (thnF (T.item X rfl rfl rfl hc i pins s5 σw H5 (fun _ _ => False) I5 (stat n5) st5 go) fun r s6 ⟨u, hr, h6⟩ => ?_)
    subst hr
    refine wpAny_bind (thnF h6 fun _ s7 ⟨x, H7, I7, r7, y7, st7, n7⟩ => ?_)
    have I7' := I7.pinned (stat n7) (T.obj _ _ st7)
    refine wpAny_bind (thnF (pgr _ s7 _ H7 x u _ I7' r7 (step x H7 y7)) fun _ s8 ⟨σ8, H8, I8, hw8, q8⟩ => ?_)
    refine wpAny_bind (thnF (ptr _ s8 σ8 H8 _ I8 q8) fun b s9 ⟨H9, I9, q9⟩ => ?_)
    have fin : ∀ {σ9 : L2.St} {s' : Shared} {H' : Hp}, Inv X (pins ++ pinsAt fp s7.heap) σ9 H' s' → σw.length = σ9.length → (∀ (j : Nat) v, σw[j]? = some (some v) → σ9[j]? = some (some v)) → Nx1 H' →
        ∃ m, m < n ∧ ∃ i H', Inv X pins σw H' s' ∧ tn i s'.heap ∧ (∀ b ∈ fp, H' b = none) ∧ W i m H' := fun {σ9 s' H'} I' hl hk nx => by
      obtain ⟨m', hm, w'⟩ := hNx H' nx
      have pin' : ∀ b ∈ fp, ∀ o, s7.heap.get? b = some o → s'.heap.get? b = some o ∧ H' b = none := fun b hb o e =>
        let z := I'.pin (b, o) (List.mem_append_right _ (List.mem_append_right _ (mem_pinsAt hb e)))
        ⟨z.1, z.2.1⟩
      refine ⟨m', hm, i + 1, H', (I'.unpinned (pins := pins)).weak hl hk, T.keep _ _ _ st7 fun b hb o e => (pin' b hb o e).1, fun b hb => ?_, w'⟩
      obtain ⟨o, e, _⟩ := T.obj _ _ st7 b hb
      exact (pin' b hb o e).2
    cases b with
    | false =>
      refine wpAny_pure ⟨rfl, ?_⟩
      exact fin I9 (by rw [← hw8, wipe_length]) (fun j v e => by rw [← hw8] at e; exact (wipe_some e).1) q9
    | true =>
      refine hb _ s9 σ8 H9 Nx1 _ _ I9 q9 fun s10 H10 I10 q10 => ?_
      refine wpAny_pure ⟨rfl, ?_⟩
      exact fin I10 (by rw [← hw8, wipe_length, wipe_length]) (fun j v e => by rw [← hw8] at e; exact wipe_sub hv j v e) q10
/-- a for further in -/
theorem body_for (hc : X.calm = true) (hxe : X.xe = fun _ _ => False) (heq : ∀ it, (model X.prog X.w).den (Code.compLoop e k it acc X.env) = (clauseTurn e k it acc X.env tg iter ifs BODY).onRaise (fun x => do noteFrame x X.env; theTreesLotGoes x)) (hun : ∀ it, X.A.under (Code.compLoop e k it acc X.env) = X.A)
    (hst : ∀ (R : Result → Shared → Prop) (it : Value) (s : Shared), codeAny (model X.prog X.w) X.A (.compLoop e k it acc X.env) R s → wpAny (model X.prog X.w) X.A (pyIter it) (fun it' s' => codeAny (model X.prog X.w) X.A (.compLoop e k it' acc X.env) R s') (notedBy (model X.prog X.w) X.A X.env fun x s' => R (.error x) s') s → codeAny (model X.prog X.w) X.A (.compStart e k it acc X.env) R s)
    (pi : PI X tg iter wi) (hs : ∀ x, foldedSetIterable iter X.env x = pure x) (pg : PG X tg g) (pt : PTs X ifs tt) (hb : BodyOk X BODY bd vb) (hv : ∀ i ∈ vb, i ∈ vs) : BodyOk X (innerRun e k acc X.env iter) (bFor wi g tt vs bd) vs := by
  intro pins s σ H Nx c Qc I h hcc
  have pir := pi.run
  rw [hxe] at pir
  unfold innerRun
  refine wpAny_bind (thnF (pir pins s σ H _ I h) fun xv s10 hx => wpAny_bind (wpAny_standAt (wpAny_bind (wpAny_of_eq (hs xv) (wpAny_bind (wpAny_holding (thnF hx fun itv s11 h11 => ?_)))))))
  obtain ⟨it1, fp1, tn1, J1, H11, e1, I11, T1, st11, f11, q11⟩ := h11
  subst e1
  refine wpAny_bind (wpAny_runOwn ?_)
  rw [Around.mark_none]
  have lp := loop_ok (R := fun r s' => match r with
      | .ok _ => ∃ H', Inv X pins (wipe σ vs) H' s' ∧ Nx H'
      | .error _ => False) hc heq hun pg pt hb hv hxe T1 (I11.weak (wipe_length _ _) (fun j v e => (wipe_some e).1)) st11 f11 q11 (fun s' H' I' n => ⟨H', I', n⟩)
  refine codeAny_mono (hst _ _ _ lp (T1.self X.A 0 _ _ _ st11 lp)) fun r s' hr => ?_
  cases r with
  | ok f =>
    obtain ⟨H', I', n⟩ := hr
    exact hcc s' H' I' n
  | error e => exact hr.elim
end
/-! ### sets -/
/-- the member is put in -/
def bAdd (w : World) (te : TE) (D : Addr) : TBd := fun σ H Nx => te σ H fun y H1 => ∃ (k : Key) (S : Key → Bool) (n : Nat), y = kV k ∧ H1 D = some (SetMO w D S n) ∧ n + 1 < scanBound ∧ Nx (upd H1 D (SetMO w D (fun j => S j || decide (j = k)) (if S k = true then n else n + 1)))
def addRun (elt : Expr) (D : Addr) (env : Env) (c : Sem PySem.Fin) : Sem PySem.Fin := do (do let v ← eval elt env; standAt elt.pos; let _ ← call (.builtin "set.add") [.ref D, v]); c
section
variable {X : Cx} {elt : Expr} {te : TE}
theorem body_add (hxe : X.xe = fun _ _ => False) (he : PE X elt te) (D : Addr) : BodyOk X (addRun elt D X.env) (bAdd X.w te D) [] := by
  intro pins s σ H Nx c Qc I h hcc
  have per := he.run
  rw [hxe] at per
  unfold addRun
  refine wpAny_bind (wpAny_bind (thnF (per pins s σ H _ I h) fun v s1 ⟨y, H1, I1, r1, k, S, n, ey, hD, room, q⟩ => wpAny_bind (wpAny_standAt ?_)))
  subst ey
  have := addM_ok (X := X) (E := X.xe) r1 I1 hD room (Q := fun _ s' => ∃ H', Inv X pins (wipe σ []) H' s' ∧ Nx H') fun s' I' => ⟨_, I', q⟩
  rw [hxe] at this
  exact wpAny_bind (wpAny_mono this (fun _ s' q => wpAny_pure (let ⟨H', I', n⟩ := q; hcc s' H' I' n)) fun _ _ z => z)
/-- {elt for tg in iter if .. ..} -/
def tScN (w : World) (wi : TI) (g : TG) (tt : TT) (vs : List Nat) (bd : Addr → TBd) : TE := fun σ H Q => wi σ H fun J H1 => ∀ D, H1 D = none → tTurns J g tt vs (wipe σ vs) (bd D) (fun H' => Q (.ref D) H') (upd H1 D (SetMO w D (fun _ => false) 0))
theorem scN_core {pins : List (Addr × Obj)} {s : Shared} {σ : L2.St} {H : Hp} {Q : VK} {tg iter : Expr} {ifs : List Expr} {rest : List Comprehension} {scope : Scope} {own : List (Str × Nat)} {vb : List Nat} {pos pos' : Pos} {wi : TI} {g : TG} {tt : TT} {bd : Addr → TBd} {BODY : Addr → Env → Sem PySem.Fin → Sem PySem.Fin} {use : Option (Value → Sem Unit)} {Qf : Value → Shared → Prop}
    (hc : X.calm = true) (hN : X.N.Nodup) (I : Inv X pins σ H s) (hi : PI X tg iter wi) (ok : BlkOk X.N X.env.scope scope own) (hv : ∀ i ∈ vb, i ∈ own.map (·.2))
    (heq : ∀ (env : Env) (D : Addr) (it : Value), (model X.prog X.w).den (Code.compLoop (.SetComp elt (⟨tg, iter, ifs, 0⟩ :: rest) scope pos) 0 it (.ref D) env) = (clauseTurn (.SetComp elt (⟨tg, iter, ifs, 0⟩ :: rest) scope pos) 0 it (.ref D) env tg iter ifs (BODY D env)).onRaise (fun x => do noteFrame x env; theTreesLotGoes x))
    (hun : ∀ (env : Env) (D : Addr) (it : Value), X.A.under (Code.compLoop (.SetComp elt (⟨tg, iter, ifs, 0⟩ :: rest) scope pos) 0 it (.ref D) env) = X.A)
    (hg : ∀ (s : Shared) (H : Hp) (C : Addr) (cl : List (Str × Addr)) (fp : List Addr), PG (X.blk s H scope (compEnvC scope cl C X.env) fp) tg g) (ht : ∀ (s : Shared) (H : Hp) (C : Addr) (cl : List (Str × Addr)) (fp : List Addr), PTs (X.blk s H scope (compEnvC scope cl C X.env) fp) ifs tt)
    (hb : ∀ (D : Addr) (s : Shared) (H : Hp) (C : Addr) (cl : List (Str × Addr)) (fp : List Addr), BodyOk (X.blk s H scope (compEnvC scope cl C X.env) fp) (BODY D (compEnvC scope cl C X.env)) (bd D) vb) (hs : ∀ x, foldedSetIterable iter X.env x = pure x)
    (h : tScN X.w wi g tt (own.map (·.2)) bd σ H Q)
    (hRR : ∀ D C s' m H', Inv X pins σ H' s' → Q (.ref D) H' → s'.heap.Ns C m → FpOk X pins H' C → compPost (model X.prog X.w) X.A X.xe use Qf (.ref D) C (.ok .next) s') :
    wpAny (model X.prog X.w) X.A (comprehension (.SetComp elt (⟨tg, iter, ifs, 0⟩ :: rest) scope pos) scope X.env pos' (newSet (.type "set")) false (eval iter X.env) use) Qf X.xe s := by
  have hfree : ∀ y ∈ scope.names, y.2 = .free → ∃ c, X.env.cells.lookup y.1 = some c := fun y hy e => by
    rcases ok.free y hy e with k | k
    · exact I.ok.has _ (.inl k)
    · exact I.ok.has _ (.inr k)
  refine wpAny_comprehension_free (use := use) rfl hs (closure_ok hfree) ok.kind (fun y hy e => by rw [ok.uniq y hy, e])
    (thn (hi.run pins s σ H _ I h) fun xv s1 hx => thn hx fun itv s2 h2 => ?_)
  obtain ⟨it, fp, tn, J, H2, e, I2, T, st2, f2, q⟩ := h2
  subst e
  refine PpSet.newSet_ok (newEnv_comp ?_)
  generalize hD : s2.heap.objs.size = D
  have hDn : H2 D = none := I2.hok.fresh (Nat.le_of_eq hD)
  have q := q D hDn
  generalize hs3 : ({ s2 with heap := s2.heap.push { cls := .type "set", dict := none, data := .set #[] 0 (.fresh 0 0 (!X.w.params.followText "set-order")) } } : Shared) = s3
  have I3 : Inv X pins σ (upd H2 D (SetMO X.w D (fun _ => false) 0)) s3 := by
    rw [← hs3]
    refine I2.laid (t' := s2.toks) (fun b o e => Heap.get?_push_of_some _ e) (Nat.le_of_eq hD) ?_
    rw [← hD]
    exact setMO_new (setM_fresh X.w)
  have h3 : s3.heap = s2.heap.push { cls := .type "set", dict := none, data := .set #[] 0 (.fresh 0 0 (!X.w.params.followText "set-order")) } := by rw [← hs3]
  have sz : ∀ b ∈ fp, b < s2.heap.objs.size := fun b hb => by
    obtain ⟨o, e, _⟩ := T.obj _ _ st2 b hb
    exact Heap.lt_size e
  have f3 : ∀ b ∈ fp, FpOk X pins (upd H2 D (SetMO X.w D (fun _ => false) 0)) b ∧ b < s3.heap.objs.size := fun b hb => by
    have hlt := sz b hb
    refine ⟨⟨?_, (f2 b hb).2⟩, by rw [h3, Heap.size_push]; exact Nat.lt_succ_of_lt hlt⟩
    rw [upd_ne (by rw [← hD]; exact Nat.ne_of_lt hlt)]
    exact (f2 b hb).1
  have st3 : tn 0 s3.heap := T.keep _ _ _ st2 fun b _ o e => by rw [h3]; exact Heap.get?_push_of_some _ e
  have I4 := block_start I3 ok hN f3
  have pg := hg s3 (upd H2 D (SetMO X.w D (fun _ => false) 0)) s3.heap.objs.size (cellsFrom (s3.heap.objs.size + 1) scope.names (cloFrom X.env.cells scope.names [])) fp
  have pt := ht s3 (upd H2 D (SetMO X.w D (fun _ => false) 0)) s3.heap.objs.size (cellsFrom (s3.heap.objs.size + 1) scope.names (cloFrom X.env.cells scope.names [])) fp
  have pb := hb D s3 (upd H2 D (SetMO X.w D (fun _ => false) 0)) s3.heap.objs.size (cellsFrom (s3.heap.objs.size + 1) scope.names (cloFrom X.env.cells scope.names [])) fp
  show codeAny _ _ (.compStart (.SetComp elt (⟨tg, iter, ifs, 0⟩ :: rest) scope pos) 0 (.ref it) (.ref D) (compEnvC scope (cellsFrom (s3.heap.objs.size + 1) scope.names (cloFrom X.env.cells scope.names [])) s3.heap.objs.size X.env)) (compPost (model X.prog X.w) X.A X.xe use Qf (.ref D) s3.heap.objs.size) { s3 with heap := pushCells (s3.heap.push { cls := .type "dict", data := .dict #[] }) scope.names }
  have nfp : ∀ b ∈ fp, (upd H2 D (SetMO X.w D (fun _ => false) 0)) b = none := fun b hb => (f3 b hb).1.1
  generalize hce : compEnvC scope (cellsFrom (s3.heap.objs.size + 1) scope.names (cloFrom X.env.cells scope.names [])) s3.heap.objs.size X.env = ce at I4 pg pt pb ⊢
  have cL : ce.locals = s3.heap.objs.size := by subst hce; rfl
  generalize hH3 : upd H2 D (SetMO X.w D (fun _ => false) 0) = H3 at I3 I4 pg pt pb q nfp f3
  generalize hs4 : ({ s3 with heap := pushCells (s3.heap.push { cls := .type "dict", data := .dict #[] }) scope.names } : Shared) = s4 at I4 ⊢
  have st4 : tn 0 s4.heap := T.keep _ _ _ st3 fun b _ o e => by rw [← hs4]; exact pushCells_keeps _ _ _ _ (Heap.get?_push_of_some _ e)
  have stat : ∀ b ∈ fp, FpOk (X.blk s3 H3 scope ce fp) [] H3 b := fun b hb =>
    ⟨nfp b hb, (I4.ok.exf b hb).1, I4.ok.exfs b hb, .inl hb, fun x c e => (I4.ok.exf b hb).2 x c e, fun p hp => absurd (show p ∈ ([] : List (Addr × Obj)) ++ [] from hp) (by simp)⟩
  have loop : codeAny (model X.prog X.w) X.A (.compLoop (.SetComp elt (⟨tg, iter, ifs, 0⟩ :: rest) scope pos) 0 (.ref it) (.ref D) ce) (compPost (model X.prog X.w) X.A X.xe use Qf (.ref D) s3.heap.objs.size) s4 := by
    refine loop_ok (X := X.blk s3 H3 scope ce fp) (pins := []) hc (heq ce D) (hun ce D) pg pt pb hv rfl T I4 st4 stat q fun s6 H5 I6 qq => ?_
    have I7 : Inv X pins σ H5 s6 := I3.call' (ch := fp) I6.os I6.base I6.hok I6.bare fun b hb => ⟨(f3 b hb).1.2.2.2.1, (f3 b hb).1.2.1, (f3 b hb).1.2.2.2.2.1, (f3 b hb).1.2.2.2.2.2⟩
    have nC : H5 s3.heap.objs.size = none := by
      have z : H5 ce.locals = none := I6.free
      rw [cL] at z
      exact z
    obtain ⟨m, hn, _⟩ := I6.loc
    have hn : s6.heap.Ns ce.locals m := hn
    rw [cL] at hn
    exact hRR D s3.heap.objs.size s6 m H5 I7 qq hn (I3.fpOk (Nat.le_refl _) nC)
  exact PpSet.codeAny_compStart_set loop (T.self X.A 0 _ _ _ st4 loop)
/-- one for -/
theorem pe_sc1 {tg iter : Expr} {ifs : List Expr} {scope : Scope} {own : List (Str × Nat)} {pos : Pos} {wi : TI} {g : TG} {tt : TT} {w : World} (hc : X.calm = true) (hN : X.N.Nodup) (hi : PI X tg iter wi) (ok : BlkOk X.N X.env.scope scope own)
    (hg : ∀ (s : Shared) (H : Hp) (C : Addr) (cl : List (Str × Addr)) (fp : List Addr), PG (X.blk s H scope (compEnvC scope cl C X.env) fp) tg g) (ht : ∀ (s : Shared) (H : Hp) (C : Addr) (cl : List (Str × Addr)) (fp : List Addr), PTs (X.blk s H scope (compEnvC scope cl C X.env) fp) ifs tt)
    (he : ∀ (s : Shared) (H : Hp) (C : Addr) (cl : List (Str × Addr)) (fp : List Addr), PE (X.blk s H scope (compEnvC scope cl C X.env) fp) elt te) (hs : ∀ x, foldedSetIterable iter X.env x = pure x := by intro _; rfl) (hw : X.w = w := by rfl) :
    PE X (.SetComp elt [⟨tg, iter, ifs, 0⟩] scope pos) (tScN w wi g tt (own.map (·.2)) (bAdd w te)) := by
  subst hw
  refine ⟨fun pins s σ H Q I h => ?_⟩
  rw [PpSet.eval_SetComp]
  refine scN_core (BODY := fun D env => addRun elt D env) (vb := []) hc hN I hi ok (fun i z => nomatch z) (fun env D it => by rfl) (fun env D it => by rfl) hg ht (fun D s H C cl fp => body_add rfl (he s H C cl fp) D) hs h fun D C s' m H' I' q hn f => ⟨m, hn, fun h'' sb => ?_⟩
  obtain ⟨f0, f1, f2, f3, f4, f5⟩ := f
  exact ⟨.ref D, H', I'.turned (t' := s'.toks) (fun b o hb e => (sb.2 b hb).trans e) f0 f1 f3 f4 f5, rfl, q⟩
/-- three fors -/
theorem pe_sc3 {tg iter tg1 iter1 tg2 iter2 : Expr} {ifs ifs1 ifs2 : List Expr} {scope : Scope} {own : List (Str × Nat)} {vs1 vs2 : List Nat} {pos : Pos} {wi wi1 wi2 : TI} {g g1 g2 : TG} {tt tt1 tt2 : TT} {w : World} (hc : X.calm = true) (hN : X.N.Nodup) (hi : PI X tg iter wi) (ok : BlkOk X.N X.env.scope scope own)
    (hv : (∀ i ∈ vs1, i ∈ own.map (·.2)) ∧ ∀ i ∈ vs2, i ∈ vs1)
    (hg : ∀ (s : Shared) (H : Hp) (C : Addr) (cl : List (Str × Addr)) (fp : List Addr), PG (X.blk s H scope (compEnvC scope cl C X.env) fp) tg g) (ht : ∀ (s : Shared) (H : Hp) (C : Addr) (cl : List (Str × Addr)) (fp : List Addr), PTs (X.blk s H scope (compEnvC scope cl C X.env) fp) ifs tt)
    (hi1 : ∀ (s : Shared) (H : Hp) (C : Addr) (cl : List (Str × Addr)) (fp : List Addr), PI (X.blk s H scope (compEnvC scope cl C X.env) fp) tg1 iter1 wi1)
    (hg1 : ∀ (s : Shared) (H : Hp) (C : Addr) (cl : List (Str × Addr)) (fp : List Addr), PG (X.blk s H scope (compEnvC scope cl C X.env) fp) tg1 g1) (ht1 : ∀ (s : Shared) (H : Hp) (C : Addr) (cl : List (Str × Addr)) (fp : List Addr), PTs (X.blk s H scope (compEnvC scope cl C X.env) fp) ifs1 tt1)
    (hi2 : ∀ (s : Shared) (H : Hp) (C : Addr) (cl : List (Str × Addr)) (fp : List Addr), PI (X.blk s H scope (compEnvC scope cl C X.env) fp) tg2 iter2 wi2)
    (hg2 : ∀ (s : Shared) (H : Hp) (C : Addr) (cl : List (Str × Addr)) (fp : List Addr), PG (X.blk s H scope (compEnvC scope cl C X.env) fp) tg2 g2) (ht2 : ∀ (s : Shared) (H : Hp) (C : Addr) (cl : List (Str × Addr)) (fp : List Addr), PTs (X.blk s H scope (compEnvC scope cl C X.env) fp) ifs2 tt2)
    (he : ∀ (s : Shared) (H : Hp) (C : Addr) (cl : List (Str × Addr)) (fp : List Addr), PE (X.blk s H scope (compEnvC scope cl C X.env) fp) elt te) (hs : ∀ x, foldedSetIterable iter X.env x = pure x := by intro _; rfl) (hs1 : ∀ env x, foldedSetIterable iter1 env x = pure x := by intro _ _; rfl) (hs2 : ∀ env x, foldedSetIterable iter2 env x = pure x := by intro _ _; rfl) (hw : X.w = w := by rfl) :
    PE X (.SetComp elt [⟨tg, iter, ifs, 0⟩, ⟨tg1, iter1, ifs1, 0⟩, ⟨tg2, iter2, ifs2, 0⟩] scope pos) (tScN w wi g tt (own.map (·.2)) fun D => bFor wi1 g1 tt1 vs1 (bFor wi2 g2 tt2 vs2 (bAdd w te D))) := by
  subst hw
  refine ⟨fun pins s σ H Q I h => ?_⟩
  rw [PpSet.eval_SetComp]
  refine scN_core (BODY := fun D env => innerRun (.SetComp elt [⟨tg, iter, ifs, 0⟩, ⟨tg1, iter1, ifs1, 0⟩, ⟨tg2, iter2, ifs2, 0⟩] scope pos) 1 (.ref D) env iter1) (vb := vs1) hc hN I hi ok hv.1 (fun env D it => by rfl) (fun env D it => by rfl) hg ht (fun D s H C cl fp => ?_) hs h fun D C s' m H' I' q hn f => ⟨m, hn, fun h'' sb => ?_⟩
  · have b2 := body_add (X := X.blk s H scope (compEnvC scope cl C X.env) fp) rfl (he s H C cl fp) D
    have b1 := body_for (X := X.blk s H scope (compEnvC scope cl C X.env) fp) (e := .SetComp elt [⟨tg, iter, ifs, 0⟩, ⟨tg1, iter1, ifs1, 0⟩, ⟨tg2, iter2, ifs2, 0⟩] scope pos) (k := 2) (acc := .ref D) (vs := vs2) hc rfl (fun it => by rfl) (fun it => by rfl) (fun R it s h0 h => compStart_k (by rfl) (by rfl) (by rfl) h0 h) (hi2 s H C cl fp) (hs2 _) (hg2 s H C cl fp) (ht2 s H C cl fp) b2 (fun i z => nomatch z)
    exact body_for (X := X.blk s H scope (compEnvC scope cl C X.env) fp) (e := .SetComp elt [⟨tg, iter, ifs, 0⟩, ⟨tg1, iter1, ifs1, 0⟩, ⟨tg2, iter2, ifs2, 0⟩] scope pos) (k := 1) (acc := .ref D) (vs := vs1) hc rfl (fun it => by rfl) (fun it => by rfl) (fun R it s h0 h => compStart_k (by rfl) (by rfl) (by rfl) h0 h) (hi1 s H C cl fp) (hs1 _) (hg1 s H C cl fp) (ht1 s H C cl fp) b1 hv.2
  obtain ⟨f0, f1, f2, f3, f4, f5⟩ := f
  exact ⟨.ref D, H', I'.turned (t' := s'.toks) (fun b o hb e => (sb.2 b hb).trans e) f0 f1 f3 f4 f5, rfl, q⟩
theorem ps_setSc1 {i : Nat} {y : Str} {py spos : Pos} {tg iter : Expr} {ifs : List Expr} {scope : Scope} {own : List (Str × Nat)} {pos : Pos} {wi : TI} {g : TG} {tt : TT} {w : World} (hc : X.calm = true) (hN : X.N.Nodup) (hy : X.N[i]? = some y) (hyl : X.env.scope.names.lookup y = some .local) (hsw : swapsWith (.SetComp elt [⟨tg, iter, ifs, 0⟩] scope pos) (some (.Name y py)) spos.line X.env = pure true) (hi : PI X tg iter wi) (ok : BlkOk X.N X.env.scope scope own)
    (hg : ∀ (s : Shared) (H : Hp) (C : Addr) (cl : List (Str × Addr)) (fp : List Addr), PG (X.blk s H scope (compEnvC scope cl C X.env) fp) tg g) (ht : ∀ (s : Shared) (H : Hp) (C : Addr) (cl : List (Str × Addr)) (fp : List Addr), PTs (X.blk s H scope (compEnvC scope cl C X.env) fp) ifs tt)
    (he : ∀ (s : Shared) (H : Hp) (C : Addr) (cl : List (Str × Addr)) (fp : List Addr), PE (X.blk s H scope (compEnvC scope cl C X.env) fp) elt te) (hs : ∀ x, foldedSetIterable iter X.env x = pure x := by intro _; rfl) (hw : X.w = w := by rfl) :
    PS X (.Assign [.Name y py] (.SetComp elt [⟨tg, iter, ifs, 0⟩] scope pos) spos) (tAsg (tScN w wi g tt (own.map (·.2)) (bAdd w te)) (gName i)) := by
  subst hw
  refine ⟨fun pins s σ H D I h => ?_⟩
  rw [exec_Assign_Name_used _ _ _ _ hsw]
  refine wpAny_bind (wpAny_standAt (wpAny_bind ?_))
  show wpAny _ X.A (do let _ ← comprehension (.SetComp elt [⟨tg, iter, ifs, 0⟩] scope pos) scope X.env (firstIterPos [⟨tg, iter, ifs, 0⟩] pos) (newSet (.type "set")) false (eval iter X.env) (some (assign (.Name y py) X.env))) _ _ s
  have h : (tScN X.w wi g tt (own.map (·.2)) (bAdd X.w te)) σ H (fun x H1 => gName i x σ H1 D.nx) := h
  refine wpAny_bind (thn (scN_core (Qf := fun _ s' => SP X pins D .next s') (use := some (assign (.Name y py) X.env)) (BODY := fun D env => addRun elt D env) (vb := []) hc hN I hi ok (fun i z => nomatch z) (fun env D it => by rfl) (fun env D it => by rfl) hg ht (fun D s H C cl fp => body_add rfl (he s H C cl fp) D) hs h fun L C s' m H' I' q hn f => ?_) fun _ s' hq => wpAny_pure (wpAny_pure hq))
  show wpAny _ _ (assign (.Name y py) X.env (.ref L)) _ _ _
  refine wpAny_assign_Name (store_ok2 (v := V.ref L) I' hN hy (.inl hyl) rfl (fun s2 I2 ⟨a, sb, ha⟩ => ?_) (.inr hyl))
  obtain ⟨f0, f1, f2, f3, f4, f5⟩ := f
  have haC : C ≠ a := by
    rcases ha with z | z
    · rw [z]; exact f1
    · exact fun e => f4 y a z e.symm
  refine ⟨m, hn.sameBut sb haC, fun h3 sb3 => ?_⟩
  exact ⟨_, H', I2.turned (t' := s2.toks) (fun b o hb e => (sb3.2 b hb).trans e) f0 f1 f3 f4 f5, q⟩
theorem ps_setSc3 {i : Nat} {y : Str} {py spos : Pos} {tg iter tg1 iter1 tg2 iter2 : Expr} {ifs ifs1 ifs2 : List Expr} {scope : Scope} {own : List (Str × Nat)} {vs1 vs2 : List Nat} {pos : Pos} {wi wi1 wi2 : TI} {g g1 g2 : TG} {tt tt1 tt2 : TT} {w : World} (hc : X.calm = true) (hN : X.N.Nodup) (hy : X.N[i]? = some y) (hyl : X.env.scope.names.lookup y = some .local) (hsw : swapsWith (.SetComp elt [⟨tg, iter, ifs, 0⟩, ⟨tg1, iter1, ifs1, 0⟩, ⟨tg2, iter2, ifs2, 0⟩] scope pos) (some (.Name y py)) spos.line X.env = pure true) (hi : PI X tg iter wi) (ok : BlkOk X.N X.env.scope scope own)
    (hv : (∀ i ∈ vs1, i ∈ own.map (·.2)) ∧ ∀ i ∈ vs2, i ∈ vs1)
    (hg : ∀ (s : Shared) (H : Hp) (C : Addr) (cl : List (Str × Addr)) (fp : List Addr), PG (X.blk s H scope (compEnvC scope cl C X.env) fp) tg g) (ht : ∀ (s : Shared) (H : Hp) (C : Addr) (cl : List (Str × Addr)) (fp : List Addr), PTs (X.blk s H scope (compEnvC scope cl C X.env) fp) ifs tt)
    (hi1 : ∀ (s : Shared) (H : Hp) (C : Addr) (cl : List (Str × Addr)) (fp : List Addr), PI (X.blk s H scope (compEnvC scope cl C X.env) fp) tg1 iter1 wi1)
    (hg1 : ∀ (s : Shared) (H : Hp) (C : Addr) (cl : List (Str × Addr)) (fp : List Addr), PG (X.blk s H scope (compEnvC scope cl C X.env) fp) tg1 g1) (ht1 : ∀ (s : Shared) (H : Hp) (C : Addr) (cl : List (Str × Addr)) (fp : List Addr), PTs (X.blk s H scope (compEnvC scope cl C X.env) fp) ifs1 tt1)
    (hi2 : ∀ (s : Shared) (H : Hp) (C : Addr) (cl : List (Str × Addr)) (fp : List Addr), PI (X.blk s H scope (compEnvC scope cl C X.env) fp) tg2 iter2 wi2)
    (hg2 : ∀ (s : Shared) (H : Hp) (C : Addr) (cl : List (Str × Addr)) (fp : List Addr), PG (X.blk s H scope (compEnvC scope cl C X.env) fp) tg2 g2) (ht2 : ∀ (s : Shared) (H : Hp) (C : Addr) (cl : List (Str × Addr)) (fp : List Addr), PTs (X.blk s H scope (compEnvC scope cl C X.env) fp) ifs2 tt2)
    (he : ∀ (s : Shared) (H : Hp) (C : Addr) (cl : List (Str × Addr)) (fp : List Addr), PE (X.blk s H scope (compEnvC scope cl C X.env) fp) elt te) (hs : ∀ x, foldedSetIterable iter X.env x = pure x := by intro _; rfl) (hs1 : ∀ env x, foldedSetIterable iter1 env x = pure x := by intro _ _; rfl) (hs2 : ∀ env x, foldedSetIterable iter2 env x = pure x := by intro _ _; rfl) (hw : X.w = w := by rfl) :
    PS X (.Assign [.Name y py] (.SetComp elt [⟨tg, iter, ifs, 0⟩, ⟨tg1, iter1, ifs1, 0⟩, ⟨tg2, iter2, ifs2, 0⟩] scope pos) spos) (tAsg (tScN w wi g tt (own.map (·.2)) fun D => bFor wi1 g1 tt1 vs1 (bFor wi2 g2 tt2 vs2 (bAdd w te D))) (gName i)) := by
  subst hw
  refine ⟨fun pins s σ H D I h => ?_⟩
  rw [exec_Assign_Name_used _ _ _ _ hsw]
  refine wpAny_bind (wpAny_standAt (wpAny_bind ?_))
  show wpAny _ X.A (do let _ ← comprehension (.SetComp elt [⟨tg, iter, ifs, 0⟩, ⟨tg1, iter1, ifs1, 0⟩, ⟨tg2, iter2, ifs2, 0⟩] scope pos) scope X.env (firstIterPos [⟨tg, iter, ifs, 0⟩, ⟨tg1, iter1, ifs1, 0⟩, ⟨tg2, iter2, ifs2, 0⟩] pos) (newSet (.type "set")) false (eval iter X.env) (some (assign (.Name y py) X.env))) _ _ s
  have h : (tScN X.w wi g tt (own.map (·.2)) fun D => bFor wi1 g1 tt1 vs1 (bFor wi2 g2 tt2 vs2 (bAdd X.w te D))) σ H (fun x H1 => gName i x σ H1 D.nx) := h
  refine wpAny_bind (thn (scN_core (Qf := fun _ s' => SP X pins D .next s') (use := some (assign (.Name y py) X.env)) (BODY := fun D env => innerRun (.SetComp elt [⟨tg, iter, ifs, 0⟩, ⟨tg1, iter1, ifs1, 0⟩, ⟨tg2, iter2, ifs2, 0⟩] scope pos) 1 (.ref D) env iter1) (vb := vs1) hc hN I hi ok hv.1 (fun env D it => by rfl) (fun env D it => by rfl) hg ht (fun D s H C cl fp => ?_) hs h fun L C s' m H' I' q hn f => ?_) fun _ s' hq => wpAny_pure (wpAny_pure hq))
  · have b2 := body_add (X := X.blk s H scope (compEnvC scope cl C X.env) fp) rfl (he s H C cl fp) D
    have b1 := body_for (X := X.blk s H scope (compEnvC scope cl C X.env) fp) (e := .SetComp elt [⟨tg, iter, ifs, 0⟩, ⟨tg1, iter1, ifs1, 0⟩, ⟨tg2, iter2, ifs2, 0⟩] scope pos) (k := 2) (acc := .ref D) (vs := vs2) hc rfl (fun it => by rfl) (fun it => by rfl) (fun R it s h0 h => compStart_k (by rfl) (by rfl) (by rfl) h0 h) (hi2 s H C cl fp) (hs2 _) (hg2 s H C cl fp) (ht2 s H C cl fp) b2 (fun i z => nomatch z)
    exact body_for (X := X.blk s H scope (compEnvC scope cl C X.env) fp) (e := .SetComp elt [⟨tg, iter, ifs, 0⟩, ⟨tg1, iter1, ifs1, 0⟩, ⟨tg2, iter2, ifs2, 0⟩] scope pos) (k := 1) (acc := .ref D) (vs := vs1) hc rfl (fun it => by rfl) (fun it => by rfl) (fun R it s h0 h => compStart_k (by rfl) (by rfl) (by rfl) h0 h) (hi1 s H C cl fp) (hs1 _) (hg1 s H C cl fp) (ht1 s H C cl fp) b1 hv.2
  show wpAny _ _ (assign (.Name y py) X.env (.ref L)) _ _ _
  refine wpAny_assign_Name (store_ok2 (v := V.ref L) I' hN hy (.inl hyl) rfl (fun s2 I2 ⟨a, sb, ha⟩ => ?_) (.inr hyl))
  obtain ⟨f0, f1, f2, f3, f4, f5⟩ := f
  have haC : C ≠ a := by
    rcases ha with z | z
    · rw [z]; exact f1
    · exact fun e => f4 y a z e.symm
  refine ⟨m, hn.sameBut sb haC, fun h3 sb3 => ?_⟩
  exact ⟨_, H', I2.turned (t' := s2.toks) (fun b o hb e => (sb3.2 b hb).trans e) f0 f1 f3 f4 f5, q⟩
theorem sw_trueS {elt : Expr} {gs : List Comprehension} {scope : Scope} {pos py : Pos} {y : Str} {l : Nat} {env : Env} (hk : env.scope.kind = .function) (hy : env.scope.names.lookup y = some .local) (hl : (py.line == pos.line) = true)
    (ha : (scope.names.any fun (n, k) => n == y && (k == .local || k == .cell)) = false) : swapsWith (.SetComp elt gs scope pos) (some (.Name y py)) l env = pure true := by
  have ky : env.kindOf y = some .local := hy
  have hb : env.blockKind = .function := by unfold Env.blockKind; rw [hk]; rfl
  unfold swapsWith
  simp only [hb, ky, ha, Expr.pos, hl]
  rfl
end
/-- a walk over turns, by the heap alone -/
theorem turns_w {J : It} {n : Nat} {G : Hp → Prop} {Y : Nat → Hp → V → Hp → Prop} (w : Walk J n G Y) {g : TG} {tt : TT} {vs : List Nat} {σw : L2.St} {bd : TBd} {Nx : Hp → Prop} {H0 : Hp} (Pv : Nat → Hp → Prop) (h0 : Pv 0 H0) (hG : ∀ i H, i ≤ n → Pv i H → G H)
    (hs : ∀ i x H H', i < n → Pv i H → Y i H x H' → g x σw H' fun σ2 H2 => wipe σ2 vs = σw ∧ tt σ2 H2 fun b H3 => if b = true then bd σ2 H3 (Pv (i + 1)) else Pv (i + 1) H3) (hd : ∀ H, Pv n H → Nx H) : tTurns J g tt vs σw bd Nx H0 := by
  refine ⟨fun i m H => m = n - i ∧ i ≤ n ∧ Pv i H, ⟨n, by simp, Nat.zero_le _, h0⟩, ?_⟩
  rintro i m H ⟨rfl, hi, p⟩
  have q := hG i H hi p
  by_cases hlt : i < n
  · exact .inr ⟨w.goes i H hlt q, Pv (i + 1), fun H' p' => ⟨n - (i + 1), by omega, rfl, hlt, p'⟩, fun x H' y => hs i x H H' hlt p (w.yields i H x H' hlt q y)⟩
  · have e : i = n := by omega
    subst e
    exact .inl ⟨w.stops H q, hd H p⟩
theorem wkx {J : It} {n : Nat} {G : Hp → Prop} {Y : Nat → Hp → V → Hp → Prop} (w : Walk J n G Y) {B : V → Hp → (Hp → Prop) → Prop} {Fin : Hp → Prop} {H0 : Hp} (Pv : Nat → Hp → Prop) (h0 : Pv 0 H0) (hG : ∀ i H, i ≤ n → Pv i H → G H)
    (hs : ∀ i x H H', i < n → Pv i H → Y i H x H' → B x H' (Pv (i + 1))) (hd : ∀ H, Pv n H → Fin H) :
    ∃ W : Nat → Nat → Hp → Prop, (∃ m, W 0 m H0) ∧ ∀ i m H, W i m H → (J.stop i H ∧ Fin H) ∨ (J.go i H ∧ ∃ Nx : Hp → Prop, (∀ H', Nx H' → ∃ m', m' < m ∧ W (i + 1) m' H') ∧ ∀ x H', J.yld i H x H' → B x H' Nx) := by
  refine ⟨fun i m H => m = n - i ∧ i ≤ n ∧ Pv i H, ⟨n, by simp, Nat.zero_le _, h0⟩, ?_⟩
  rintro i m H ⟨rfl, hi, p⟩
  have q := hG i H hi p
  by_cases hlt : i < n
  · exact .inr ⟨w.goes i H hlt q, Pv (i + 1), fun H' p' => ⟨n - (i + 1), by omega, rfl, hlt, p'⟩, fun x H' y => hs i x H H' hlt p (w.yields i H x H' hlt q y)⟩
  · have e : i = n := by omega
    subst e
    exact .inl ⟨w.stops H q, hd H p⟩
end SH
set_option Elab.async false
set_option linter.all false
set_option maxRecDepth 100000
set_option maxHeartbeats 4000000
/-! the ends of a house in their order, their commons -/
namespace SH
open PySem PySem.Spec PyProof.Rows L2
/-- an own loop over anything that is walked -/
theorem walk_gen {J : It} {n : Nat} {G : Hp → Prop} {Y : Nat → Hp → V → Hp → Prop} (w : Walk J n G Y) {Step : (Hp → Prop) → V → Hp → Prop} {H0 : Hp} {Qd : Hp → Prop} (Pv : Nat → Hp → Prop) (h0 : Pv 0 H0) (hG : ∀ i H, i ≤ n → Pv i H → G H)
    (hs : ∀ i x H H', i < n → Pv i H → Y i H x H' → Step (Pv (i + 1)) x H') (hd : ∀ H, Pv n H → Qd H) :
    ∃ W : Nat → Nat → Hp → Prop, (∃ m, W 0 m H0) ∧ ∀ i m H, W i m H →
      (J.stop i H ∧ Qd H) ∨ (J.go i H ∧ ∃ Nx : Hp → Prop, (∀ H', Nx H' → ∃ m', m' < m ∧ W (i + 1) m' H') ∧ ∀ x H', J.yld i H x H' → Step Nx x H') := by
  refine ⟨fun i m H => m = n - i ∧ i ≤ n ∧ Pv i H, ⟨n, by simp, Nat.zero_le _, h0⟩, ?_⟩
  rintro i m H ⟨rfl, hi, p⟩
  have q := hG i H hi p
  by_cases hlt : i < n
  · exact .inr ⟨w.goes i H hlt q, Pv (i + 1), fun H' p' => ⟨n - (i + 1), by omega, rfl, hlt, p'⟩, fun x H' y => hs i x H H' hlt p (w.yields i H x H' hlt q y)⟩
  · have e : i = n := by omega
    subst e
    exact .inl ⟨w.stops H q, hd H p⟩
/-! ### what is left of a text -/
def suf (z : Str) (s : Nat) : Str := cutS z (some (s : Int)) none
theorem suf_tl (z : Str) (s : Nat) : TL.tl (suf z s) = (TL.tl z).drop s := by
  show (z.cps.toList.drop (HT.sIx z.length 0 (some (s : Int)))).take (HT.sIx z.length z.length none - HT.sIx z.length 0 (some (s : Int))) = _
  rw [HT.sIx_nat, HT.sIx_none]
  have hl : z.cps.toList.length = z.length := rfl
  rw [List.take_of_length_le (by rw [List.length_drop, hl]; exact Nat.le_refl _)]
  rcases Nat.le_total s z.length with h | h
  · rw [Nat.min_eq_left h]
  · rw [Nat.min_eq_right h, List.drop_eq_nil_of_le (by omega)]
    exact (List.drop_eq_nil_of_le (by show z.cps.toList.length ≤ s; omega)).symm
theorem suf_len (z : Str) (s : Nat) : (suf z s).length = z.length - s := by
  have := congrArg List.length (suf_tl z s)
  rw [List.length_drop] at this
  exact this
theorem suf_let {z : Str} (h : IsLet z) (s : Nat) : IsLet (suf z s) := by
  show (TL.tl (suf z s)).all okc = true
  rw [suf_tl]
  exact List.all_eq_true.mpr fun c hc => List.all_eq_true.mp h c (List.mem_of_mem_drop hc)
/-! ### the ends -/
def endsOf (q : Int × Str) : List E3 := (List.range (q.2.length + 1)).map fun s => (suf q.2 s, q.1, (s : Int))
def ends3 (h : List (Int × Str)) : List E3 := h.flatMap endsOf
def ordE (h : List (Int × Str)) : List E3 := (ends3 h).mergeSort le3
theorem mem_endsOf {q : Int × Str} {e : E3} : e ∈ endsOf q ↔ ∃ s : Nat, s ≤ q.2.length ∧ e = (suf q.2 s, q.1, (s : Int)) := by
  unfold endsOf
  rw [List.mem_map]
  constructor
  · rintro ⟨s, hs, rfl⟩
    exact ⟨s, by have := List.mem_range.mp hs; omega, rfl⟩
  · rintro ⟨s, hs, rfl⟩
    exact ⟨s, List.mem_range.mpr (by omega), rfl⟩
theorem mem_ends3 {h : List (Int × Str)} {e : E3} : e ∈ ends3 h ↔ ∃ q ∈ h, ∃ s : Nat, s ≤ q.2.length ∧ e = (suf q.2 s, q.1, (s : Int)) := by
  unfold ends3
  rw [List.mem_flatMap]
  constructor
  · rintro ⟨q, hq, he⟩
    exact ⟨q, hq, mem_endsOf.mp he⟩
  · rintro ⟨q, hq, he⟩
    exact ⟨q, hq, mem_endsOf.mpr he⟩
theorem mem_ordE {h : List (Int × Str)} {e : E3} : e ∈ ordE h ↔ e ∈ ends3 h := (List.mergeSort_perm _ _).mem_iff
theorem endsOf_len (q : Int × Str) : (endsOf q).length = q.2.length + 1 := by
  unfold endsOf
  rw [List.length_map, List.length_range]
theorem ends3_len {m : Nat} : ∀ {h : List (Int × Str)}, (∀ q ∈ h, q.2.length ≤ m) → (ends3 h).length ≤ (m + 1) * h.length
  | [], _ => Nat.zero_le _
  | q :: r, a => by
    have e : ends3 (q :: r) = endsOf q ++ ends3 r := rfl
    rw [e, List.length_append, endsOf_len, List.length_cons, Nat.mul_add]
    have := a q (List.mem_cons_self ..)
    have := ends3_len fun x hx => a x (List.mem_cons_of_mem _ hx)
    omega
theorem ordE_len {m : Nat} {h : List (Int × Str)} (a : ∀ q ∈ h, q.2.length ≤ m) : (ordE h).length ≤ (m + 1) * h.length := by
  unfold ordE
  rw [List.length_mergeSort]
  exact ends3_len a
/-! ### commons -/
def comm : List Nat → List Nat → Nat
  | a :: x, b :: y => if a = b then comm x y + 1 else 0
  | _, _ => 0
theorem comm_le : ∀ x y : List Nat, comm x y ≤ x.length ∧ comm x y ≤ y.length
  | [], y => by unfold comm; simp
  | _ :: _, [] => by unfold comm; simp
  | a :: x, b :: y => by
    unfold comm
    have := comm_le x y
    split
    · simp only [List.length_cons]; omega
    · simp
/-- as many as are alike -/
theorem comm_at : ∀ (x y : List Nat) (i : Nat), i < comm x y → x[i]? = y[i]?
  | [], y, i, h => by simp [comm] at h
  | _ :: _, [], i, h => by simp [comm] at h
  | a :: x, b :: y, i, h => by
    unfold comm at h
    by_cases e : a = b
    · rw [if_pos e] at h
      cases i with
      | zero => simp [e]
      | succ i => simpa using comm_at x y i (by omega)
    · rw [if_neg e] at h
      omega
/-- the next ones are not -/
theorem comm_ne : ∀ (x y : List Nat) (c d : Nat), x[comm x y]? = some c → y[comm x y]? = some d → c ≠ d
  | [], y, c, d, h, _ => by simp [comm] at h
  | _ :: _, [], c, d, _, h => by simp [comm] at h
  | a :: x, b :: y, c, d, h, h2 => by
    unfold comm at h h2
    by_cases e : a = b
    · rw [if_pos e] at h h2
      exact comm_ne x y c d (by simpa using h) (by simpa using h2)
    · rw [if_neg e] at h h2
      simp at h h2
      rw [← h, ← h2]
      exact e
/-- so is the number told by these two -/
theorem comm_of {x y : List Nat} {n : Nat} (h1 : n ≤ x.length) (h2 : n ≤ y.length) (ha : ∀ i, i < n → x[i]? = y[i]?) (hn : n = x.length ∨ n = y.length ∨ x[n]? ≠ y[n]?) : comm x y = n := by
  have l := comm_le x y
  rcases Nat.lt_trichotomy (comm x y) n with h | h | h
  · exfalso
    have e1 : x[comm x y]? = some (x[comm x y]'(by omega)) := List.getElem?_eq_getElem (by omega)
    have e2 : y[comm x y]? = some (y[comm x y]'(by omega)) := List.getElem?_eq_getElem (by omega)
    have := ha _ h
    rw [e1, e2] at this
    exact comm_ne x y _ _ e1 e2 (Option.some.inj this)
  · exact h
  · exfalso
    rcases hn with e | e | e
    · omega
    · omega
    · exact e (comm_at x y n h)
def letsAt (E : List E3) (k : Nat) : List Nat := ((E[k]?).map fun e => TL.tl e.1).getD []
/-- the common of the k-th and the next -/
def cmAt (E : List E3) (k : Nat) : Int := (comm (letsAt E k) (letsAt E (k + 1)) : Nat)
def cmsE (E : List E3) : List Int := (List.range E.length).map fun k => if k = 0 then 0 else cmAt E (k - 1)
theorem cmsE_cons {E : List E3} {n : Nat} (h : E.length = n + 1) : cmsE E = 0 :: (List.range n).map (cmAt E) := by
  unfold cmsE
  rw [h, List.range_succ_eq_map, List.map_cons, List.map_map]
  rfl
theorem cmsE_len (E : List E3) : (cmsE E).length = E.length := by
  unfold cmsE
  rw [List.length_map, List.length_range]
theorem letsAt_eq {E : List E3} {k : Nat} {e : E3} (h : E[k]? = some e) : letsAt E k = TL.tl e.1 := by
  unfold letsAt
  rw [h]
  rfl
/-! ### places in the heap -/
abbrev QT := List (Addr × Int × Int)
def qrefs (R : QT) : List V := R.map fun q => V.ref q.1
def QAt (K : PySem.W.Frag) (H : Hp) (R : QT) : Prop := ∀ q ∈ R, SqT K H q.1 [.int q.2.1, .int q.2.2]
theorem QAt.same {K : PySem.W.Frag} {H H' : Hp} {R : QT} (e : Same H H') (h : QAt K H R) : QAt K H' R := fun q hq => same_tup e (h q hq)
theorem qrefs_len (R : QT) : (qrefs R).length = R.length := List.length_map ..
theorem qrefs_at {R : QT} {i : Nat} {x : V} (h : (qrefs R)[i]? = some x) : ∃ t, R[i]? = some t ∧ t ∈ R ∧ x = .ref t.1 := by
  unfold qrefs at h
  rw [List.getElem?_map] at h
  cases e : R[i]? with
  | none => rw [e] at h; cases h
  | some t =>
    rw [e] at h
    cases h
    exact ⟨t, rfl, List.mem_of_getElem? e, rfl⟩
def dP2 (q : Int × Int) : PyData := .tuple [.int q.1, .int q.2]
def dQ (l : List (Int × Int)) : PyData := .list (l.map dP2)
theorem dp_qs {K : PySem.W.Frag} {H : Hp} : ∀ (R : QT), QAt K H R → DpAll K H (qrefs R) ((R.map (·.2)).map dP2)
  | [], _ => .nil
  | q :: r, h => .cons (.tup (h q (List.mem_cons_self ..)) (.cons (.int _) (.cons (.int _) .nil))) (dp_qs r fun x m => h x (List.mem_cons_of_mem _ m))
theorem dp_q {K : PySem.W.Frag} {H : Hp} {a : Addr} {R : QT} (h : SqL K H a (qrefs R)) (hq : QAt K H R) : Dp K H (.ref a) (dQ (R.map (·.2))) := .lst h (dp_qs R hq)
theorem dQ_lay : ∀ (l : List (Int × Int)), PyData.canLayAll0 (l.map dP2) = true
  | [] => rfl
  | q :: r => by
    rw [List.map_cons, PyData.canLayAll0, dQ_lay r]
    simp [dP2, PyData.canLay0, PyData.canLayAll0]
theorem dQ_deep : ∀ (l : List (Int × Int)), PyData.depthAll (l.map dP2) ≤ 1
  | [] => Nat.zero_le _
  | q :: r => by
    rw [List.map_cons, PyData.depthAll]
    have := dQ_deep r
    have e : PyData.depth (dP2 q) = 1 := rfl
    rw [e]
    omega
theorem shaped_of {d : PyData} (h : d.canLay0 = true) (h2 : d.depth ≤ 64) : SeqAt.shaped d = true := by
  unfold SeqAt.shaped
  rw [h, decide_eq_true h2]
  rfl
theorem dQ_shaped (l : List (Int × Int)) : SeqAt.shaped (dQ l) = true := shaped_of (dQ_lay l) (by
  show PyData.depthAll (l.map dP2) + 1 ≤ 64
  have := dQ_deep l
  omega)
theorem dQ_refl (l : List (Int × Int)) : PyData.eqv (dQ l) (dQ l) = true := SeqAt.eqv_refl _ (show (dQ l).canLay0 = true from dQ_lay l)
/-! lists of numbers as data -/
def dI (l : List Int) : PyData := .list (l.map .int)
theorem dp_is {K : PySem.W.Frag} {H : Hp} : ∀ (l : List Int), DpAll K H (l.map V.int) (l.map PyData.int)
  | [] => .nil
  | _ :: r => .cons (.int _) (dp_is r)
theorem dp_i {K : PySem.W.Frag} {H : Hp} {a : Addr} {l : List Int} (h : SqL K H a (l.map V.int)) : Dp K H (.ref a) (dI l) := .lst h (dp_is l)
theorem dI_lay : ∀ (l : List Int), PyData.canLayAll0 (l.map PyData.int) = true
  | [] => rfl
  | q :: r => by
    rw [List.map_cons, PyData.canLayAll0, dI_lay r]
    simp [PyData.canLay0]
theorem dI_shaped (l : List Int) : SeqAt.shaped (dI l) = true := shaped_of (dI_lay l) (by
  show PyData.depthAll (l.map PyData.int) + 1 ≤ 64
  rw [PySem.W.depth_ints]
  decide)
theorem dI_refl (l : List Int) : PyData.eqv (dI l) (dI l) = true := SeqAt.eqv_refl _ (show (dI l).canLay0 = true from dI_lay l)
/-! ### triples in the heap, flat and nested -/
abbrev FT := List (Addr × E3)
def frefs (Z : FT) : List V := Z.map fun z => V.ref z.1
def FAt (H : Hp) (Z : FT) : Prop := ∀ z ∈ Z, H z.1 = some (.tup [.str z.2.1, .int z.2.2.1, .int z.2.2.2])
abbrev NT3 := List (Addr × Addr × E3)
def nrefs (Z : NT3) : List V := Z.map fun z => V.ref z.1
def NAt (H : Hp) (Z : NT3) : Prop := ∀ z ∈ Z, H z.1 = some (.tup [.str z.2.2.1, .ref z.2.1]) ∧ H z.2.1 = some (.tup [.int z.2.2.2.1, .int z.2.2.2.2])
theorem FAt.same {H H' : Hp} {Z : FT} (e : Same H H') (h : FAt H Z) : FAt H' Z := fun z m => e _ _ (h z m)
theorem NAt.same {H H' : Hp} {Z : NT3} (e : Same H H') (h : NAt H Z) : NAt H' Z := fun z m => ⟨e _ _ (h z m).1, e _ _ (h z m).2⟩
theorem FAt.snoc {H : Hp} {Z : FT} {z : Addr × E3} (h : FAt H Z) (hz : H z.1 = some (.tup [.str z.2.1, .int z.2.2.1, .int z.2.2.2])) : FAt H (Z ++ [z]) := fun y hy => by
  rcases List.mem_append.mp hy with m | m
  · exact h y m
  · rw [List.mem_singleton.mp m]; exact hz
theorem NAt.snoc {H : Hp} {Z : NT3} {z : Addr × Addr × E3} (h : NAt H Z) (hz : H z.1 = some (.tup [.str z.2.2.1, .ref z.2.1]) ∧ H z.2.1 = some (.tup [.int z.2.2.2.1, .int z.2.2.2.2])) : NAt H (Z ++ [z]) := fun y hy => by
  rcases List.mem_append.mp hy with m | m
  · exact h y m
  · rw [List.mem_singleton.mp m]; exact hz
/-- a list that is written lies apart from what the tuples are -/
theorem FAt.put {H : Hp} {Z : FT} {D : Addr} {l : List V} {o : HO} (h : FAt H Z) (hD : H D = some (.lst l)) : FAt (upd H D o) Z := fun z m => by
  have := h z m
  rw [upd_ne (fun e => by rw [e, hD] at this; cases this)]
  exact this
theorem NAt.put {H : Hp} {Z : NT3} {D : Addr} {l : List V} {o : HO} (h : NAt H Z) (hD : H D = some (.lst l)) : NAt (upd H D o) Z := fun z m => by
  have := h z m
  rw [upd_ne (fun e => by rw [e, hD] at this; cases this.1), upd_ne (fun e => by rw [e, hD] at this; cases this.2)]
  exact this
theorem QAt.put {K : PySem.W.Frag} {H : Hp} {R : QT} {D : Addr} {l : List V} {o : HO} (h : QAt K H R) (hD : H D = some (.lst l)) : QAt K (upd H D o) R := fun z m => but_tup (l := l) hD but_upd (h z m)
theorem sort_flat (Z : FT) : ((Z.map fun z => (V.ref z.1, z.2)).mergeSort (PySem.W.dataLe false fun z => eFlat z.2)).map (·.1) = frefs (Z.mergeSort fun p q => le3 p.2 q.2) := by
  rw [flat_le (β := V × E3) (fun z => z.2), ← List.map_mergeSort (l := Z) (f := fun z : Addr × E3 => (V.ref z.1, z.2)) (r := fun p q : Addr × E3 => le3 p.2 q.2) (s := fun p q : V × E3 => le3 p.2 q.2) (fun _ _ _ _ => rfl), List.map_map]
  rfl
theorem sort_nest (Z : NT3) : ((Z.map fun z => (V.ref z.1, z.2.2)).mergeSort (PySem.W.dataLe false fun z => eNest z.2)).map (·.1) = nrefs (Z.mergeSort fun p q => le3 p.2.2 q.2.2) := by
  rw [nest_le (β := V × E3) (fun z => z.2), ← List.map_mergeSort (l := Z) (f := fun z : Addr × Addr × E3 => (V.ref z.1, z.2.2)) (r := fun p q : Addr × Addr × E3 => le3 p.2.2 q.2.2) (s := fun p q : V × E3 => le3 p.2 q.2) (fun _ _ _ _ => rfl), List.map_map]
  rfl
theorem ends3_snoc (h : List (Int × Str)) (q : Int × Str) : ends3 (h ++ [q]) = ends3 h ++ endsOf q := by
  unfold ends3
  rw [List.flatMap_append]
  simp
theorem take_snoc {α : Type} {l : List α} {i : Nat} {x : α} (h : l[i]? = some x) : l.take (i + 1) = l.take i ++ [x] := by
  rw [List.take_add_one, h]
  rfl
theorem endsOf_at {q : Int × Str} {s : Nat} (h : s ≤ q.2.length) : (endsOf q)[s]? = some (suf q.2 s, q.1, (s : Int)) := by
  unfold endsOf
  rw [List.getElem?_map, List.getElem?_range (by omega)]
  rfl
/-- the order: a new list of new pairs -/
def spOrder (K : PySem.W.Frag) : Sp := fun vs H Q _ => ∃ (a : Addr) (L : PL), vs = [.ref a] ∧ HsAt K H a L ∧ L.length ≤ 500 ∧ (∀ q ∈ L, q.2.2.length ≤ 100) ∧
  ∀ (l : Addr) (R : QT) (H' : Hp), Same H H' → H l = none → H' l = some (.lst (qrefs R)) → QAt K H' R → R.map (·.2) = (ordE (L.map (·.2))).map (·.2) → Q (.ref l) H'
end SH
set_option Elab.async false
set_option linter.all false
set_option maxRecDepth 100000
set_option maxHeartbeats 4000000
/-! a house as a dict; slices of lists -/
namespace SH
open PySem PySem.Spec PyProof.Rows L2
namespace Dct
theorem valV_merge_out {k : Key} : ∀ (more acc : List (Key × V)), k ∉ more.map (·.1) → valV (mergeK acc more) k = valV acc k
  | [], _, _ => rfl
  | x :: r, acc, h => by
    rw [List.map_cons, List.mem_cons] at h
    show valV (mergeK (putK acc x.1 x.2) r) k = _
    rw [valV_merge_out r _ (fun z => h (.inr z)), valV_put, if_neg (fun z => h (.inl z))]
theorem valV_merge_in {k : Key} {v : V} : ∀ (more acc : List (Key × V)), (more.map (·.1)).Nodup → (k, v) ∈ more → valV (mergeK acc more) k = some v
  | x :: r, acc, nd, h => by
    rw [List.map_cons, List.nodup_cons] at nd
    show valV (mergeK (putK acc x.1 x.2) r) k = _
    rcases List.mem_cons.mp h with e | m
    · rw [← e] at nd ⊢
      rw [valV_merge_out r _ nd.1, valV_put, if_pos rfl]
    · exact valV_merge_in r _ nd.2 m
theorem take_drop_cut {z : Str} {a b : Nat} (h1 : a ≤ b) (h2 : b ≤ z.length) : TL.tl (cutS z (some (a : Int)) (some (b : Int))) = ((TL.tl z).take b).drop a := by
  show (z.cps.toList.drop (HT.sIx z.length 0 (some (a : Int)))).take (HT.sIx z.length z.length (some (b : Int)) - HT.sIx z.length 0 (some (a : Int))) = _
  rw [HT.sIx_nat, HT.sIx_nat, Nat.min_eq_left h2, Nat.min_eq_left (Nat.le_trans h1 h2), List.drop_take]
theorem paired_house {K : PySem.W.Frag} {H : Hp} : ∀ {L : PL}, PairsAt K H L → Paired (fun p (kv : Key × V) => SqT K H p [kV kv.1, kv.2]) (L.map (·.1)) (L.map fun q => ((Sum.inl q.2.1 : Key), V.str q.2.2))
  | [], _ => .nil
  | q :: r, h => .cons (h q (List.mem_cons_self ..)) (paired_house fun x m => h x (List.mem_cons_of_mem _ m))

theorem house_get {L : PL} (asc : ((L.map (·.2)).map (·.1)).Pairwise (· < ·)) {n : Int} {z : Str} (h : (n, z) ∈ L.map (·.2)) : valV (mergeK [] (L.map fun q => ((Sum.inl q.2.1 : Key), V.str q.2.2))) (.inl n) = some (.str z) := by
  obtain ⟨q, hq, e⟩ := List.mem_map.mp h
  have e1 : q.2.1 = n := congrArg Prod.fst e
  have e2 : q.2.2 = z := congrArg Prod.snd e
  subst e1 e2
  refine valV_merge_in _ _ ?_ (List.mem_map.mpr ⟨q, hq, rfl⟩)
  rw [List.map_map]
  rw [List.map_map, List.pairwise_map] at asc
  rw [List.Nodup, List.pairwise_map]
  exact asc.imp fun h e => by
    have h : _ < _ := h
    have := Sum.inl.inj e
    simp only [Function.comp] at h
    omega
theorem cut_from (xs : List V) (k : Nat) : cutV xs (some (k : Int)) none = xs.drop k := by
  unfold cutV
  rw [HT.sIx_nat, HT.sIx_none]
  rcases Nat.le_total k xs.length with h | h
  · rw [Nat.min_eq_left h, List.take_of_length_le (by rw [List.length_drop]; exact Nat.le_refl _)]
  · rw [Nat.min_eq_right h, Nat.sub_self, List.take_zero, List.drop_eq_nil_of_le h]
end Dct
end SH
set_option Elab.async false
set_option linter.all false
set_option maxRecDepth 100000
set_option maxHeartbeats 4000000
/-! the text with a number; an end told by its number and start -/
namespace SH
open PySem PySem.Spec PyProof.Rows L2
theorem refs_len (L : PL) : (refs L).length = L.length := List.length_map ..
def lk (n : Int) : List (Int × Str) → Option Str
  | [] => none
  | q :: r => if q.1 = n then some q.2 else lk n r
theorem lk_mem {n : Int} {z : Str} : ∀ {h : List (Int × Str)}, lk n h = some z → (n, z) ∈ h
  | q :: r, e => by
    unfold lk at e
    by_cases c : q.1 = n
    · rw [if_pos c] at e
      have e := Option.some.inj e
      obtain ⟨a, b⟩ := q
      subst c e
      exact List.mem_cons_self ..
    · rw [if_neg c] at e
      exact List.mem_cons_of_mem _ (lk_mem e)
theorem lk_none {n : Int} : ∀ {h : List (Int × Str)}, lk n h = none → n ∉ h.map (·.1)
  | [], _ => by simp
  | q :: r, e => by
    unfold lk at e
    by_cases c : q.1 = n
    · rw [if_pos c] at e
      cases e
    · rw [if_neg c] at e
      rw [List.map_cons, List.mem_cons, not_or]
      exact ⟨fun z => c z.symm, lk_none e⟩
theorem lk_of {n : Int} {z : Str} : ∀ {h : List (Int × Str)}, (h.map (·.1)).Pairwise (· < ·) → (n, z) ∈ h → lk n h = some z
  | q :: r, asc, m => by
    rw [List.map_cons, List.pairwise_cons] at asc
    unfold lk
    rcases List.mem_cons.mp m with e | m
    · rw [← e, if_pos rfl]
    · have := asc.1 n (List.mem_map.mpr ⟨_, m, rfl⟩)
      rw [if_neg (by omega)]
      exact lk_of asc.2 m
theorem lk_no {n : Int} {h : List (Int × Str)} (m : n ∉ h.map (·.1)) : lk n h = none := by
  cases e : lk n h with
  | none => rfl
  | some z => exact absurd (List.mem_map.mpr ⟨_, lk_mem e, rfl⟩) m
/-- dict(house) at a number -/
theorem lk_val {L : PL} (asc : ((L.map (·.2)).map (·.1)).Pairwise (· < ·)) (n : Int) : valV (mergeK [] (L.map fun q => ((Sum.inl q.2.1 : Key), V.str q.2.2))) (.inl n) = (lk n (L.map (·.2))).map V.str := by
  cases e : lk n (L.map (·.2)) with
  | some z => exact Dct.house_get asc (lk_mem e)
  | none =>
    rw [Dct.valV_merge_out _ _ (fun z => ?_)]
    · rfl
    · rw [List.map_map] at z
      obtain ⟨q, hq, e2⟩ := List.mem_map.mp z
      refine lk_none e ?_
      rw [List.map_map]
      exact List.mem_map.mpr ⟨q, hq, Sum.inl.inj e2⟩
/-- the letters of an end -/
def endS (h : List (Int × Str)) (n s : Int) : Option Str :=
  match lk n h with
  | none => none
  | some z => if 0 ≤ s ∧ s ≤ (z.length : Int) then some (suf z s.toNat) else none
theorem endS_some {h : List (Int × Str)} {n s : Int} {x : Str} (e : endS h n s = some x) : ∃ z, lk n h = some z ∧ 0 ≤ s ∧ s ≤ (z.length : Int) ∧ x = suf z s.toNat := by
  unfold endS at e
  cases c : lk n h with
  | none => rw [c] at e; cases e
  | some z =>
    rw [c] at e
    by_cases d : 0 ≤ s ∧ s ≤ (z.length : Int)
    · have e : (if 0 ≤ s ∧ s ≤ (z.length : Int) then some (suf z s.toNat) else none) = some x := e
      rw [if_pos d] at e
      exact ⟨z, rfl, d.1, d.2, (Option.some.inj e).symm⟩
    · have e : (if 0 ≤ s ∧ s ≤ (z.length : Int) then some (suf z s.toNat) else none) = some x := e
      rw [if_neg d] at e
      cases e
theorem endS_of {h : List (Int × Str)} {n s : Int} {z : Str} (e : lk n h = some z) (d : 0 ≤ s ∧ s ≤ (z.length : Int)) : endS h n s = some (suf z s.toNat) := by
  unfold endS
  rw [e]
  exact if_pos d
theorem endS_out {h : List (Int × Str)} {n s : Int} {z : Str} (e : lk n h = some z) (d : ¬ (0 ≤ s ∧ s ≤ (z.length : Int))) : endS h n s = none := by
  unfold endS
  rw [e]
  exact if_neg d
theorem endS_no {h : List (Int × Str)} {n s : Int} (e : lk n h = none) : endS h n s = none := by
  unfold endS
  rw [e]
/-- an error of the class at C with this number leaves -/
def Errs (E : XK) (H : Hp) (C : Addr) (n : Int) : Prop := ∀ (d : Addr) (H2 : Hp), Same H H2 → H d = none → H2 d = some (.xd [(("at" : Str), .int n)]) → E (.ref C) (some d) H2
theorem Errs.same {E : XK} {H H' : Hp} {C : Addr} {n : Int} (s : Same H H') (h : Errs E H C n) : Errs E H' C n := fun d H2 s2 nd e => h d H2 (s.trans s2) (s.free nd) e
end SH
set_option Elab.async false
set_option linter.all false
set_option maxRecDepth 100000
set_option maxHeartbeats 4000000
/-! ends by what they begin with; a while with its own invariant -/
namespace SH
open PySem PySem.Spec PyProof.Rows L2
theorem while_i {c : TT} {tb : TS} {D : Ends} {σ : L2.St} {H : Hp} (W : Nat → L2.St → Hp → Prop) {m : Nat} (h0 : W m σ H)
    (hs : ∀ m σ H, W m σ H → c σ H fun b H1 => if b = true then tb { D with nx := fun σ' H' => ∃ m', m' < m ∧ W m' σ' H', ct := fun σ' H' => ∃ m', m' < m ∧ W m' σ' H', bk := D.nx } σ H1 else D.nx σ H1)
    (mono : ∀ σ H Q Q', (∀ b H1, Q b H1 → Q' b H1) → c σ H Q → c σ H Q') : tWhile c tb D σ H := by
  refine ⟨W, ⟨m, h0⟩, fun m σ H w => mono σ H _ _ (fun b H1 q => ?_) (hs m σ H w)⟩
  cases b with
  | true => exact ⟨_, fun σ' H' x => x, q⟩
  | false => exact q
theorem cut_mid {z : Str} {s n : Nat} (hs : s ≤ z.length) : TL.tl (cutS z (some (s : Int)) (some ((s : Int) + (n : Int)))) = ((TL.tl z).drop s).take n := by
  have e : ((s : Int) + (n : Int)) = ((s + n : Nat) : Int) := by omega
  rw [e]
  show (z.cps.toList.drop (HT.sIx z.length 0 (some (s : Int)))).take (HT.sIx z.length z.length (some ((s + n : Nat) : Int)) - HT.sIx z.length 0 (some (s : Int))) = _
  rw [HT.sIx_nat, HT.sIx_nat, Nat.min_eq_left hs]
  have hl : z.cps.toList.length = z.length := rfl
  rcases Nat.le_total (s + n) z.length with h | h
  · rw [Nat.min_eq_left h, Nat.add_sub_cancel_left]
  · rw [Nat.min_eq_right h, List.take_of_length_le (by rw [List.length_drop, hl]; exact Nat.le_refl _)]
    exact (List.take_of_length_le (by rw [List.length_drop]; show z.length - s ≤ n; omega)).symm
/-! ### the order of lists of signs -/
theorem nl_take : ∀ (n : Nat) (x y : List Nat), ¬ y < x → ¬ y.take n < x.take n
  | 0, _, _, _ => by simp
  | n + 1, [], y, _ => by simp
  | n + 1, a :: x, [], h => absurd (List.Lex.nil : ([] : List Nat) < a :: x) h
  | n + 1, a :: x, b :: y, h => by
    rw [List.take_succ_cons, List.take_succ_cons]
    intro z
    rw [List.cons_lt_cons_iff] at z h
    rcases z with z | ⟨e, z⟩
    · exact h (.inl z)
    · exact nl_take n x y (fun q => h (.inr ⟨e, q⟩)) z
/-- cut to a word's length it is less just where it is -/
theorem take_lt : ∀ (w x : List Nat), x.take w.length < w ↔ x < w
  | [], x => by simp
  | b :: w, [] => by simp
  | b :: w, a :: x => by
    rw [List.length_cons, List.take_succ_cons, List.cons_lt_cons_iff, List.cons_lt_cons_iff, take_lt w x]
theorem take_eq_not_lt {w x : List Nat} (h : x.take w.length = w) : ¬ x < w := fun z => by
  have := (take_lt w x).mpr z
  rw [h] at this
  exact List.lt_irrefl _ this
theorem le3_letters {p q : E3} (h : le3 p q = true) : ¬ TL.tl q.1 < TL.tl p.1 := fun z => by
  unfold le3 at h
  simp only [Bool.not_eq_true', decide_eq_false_iff_not] at h
  exact h (.inl z)
/-- less than all that begin with the word, or beginning with it -/
def prW (w : Str) (b : Bool) (e : E3) : Bool := decide (TL.tl e.1 < TL.tl w) || (b && decide ((TL.tl e.1).take w.length = TL.tl w))
theorem prW_mono {w : Str} {b : Bool} {p q : E3} (h : le3 p q = true) (hq : prW w b q = true) : prW w b p = true := by
  unfold prW at *
  have n := le3_letters h
  have nt := nl_take w.length _ _ n
  rw [Bool.or_eq_true, decide_eq_true_eq] at hq ⊢
  rcases hq with hq | hq
  · refine .inl ?_
    rcases List.le_iff_lt_or_eq.mp (List.not_lt.mp n) with c | c
    · exact List.lt_trans c hq
    · rw [c]; exact hq
  · rw [Bool.and_eq_true, decide_eq_true_eq] at hq
    obtain ⟨rfl, e⟩ := hq
    rw [e] at nt
    rcases List.le_iff_lt_or_eq.mp (List.not_lt.mp nt) with c | c
    · exact .inl ((take_lt _ _).mp c)
    · refine .inr ?_
      rw [Bool.true_and, decide_eq_true_eq]
      exact c
theorem filter_cut {α : Type} {E : List α} {p : α → Bool} {n : Nat} (h1 : ∀ (i : Nat) (h : i < E.length), i < n → p E[i] = true) (h2 : ∀ (i : Nat) (h : i < E.length), n ≤ i → p E[i] = false) : E.filter p = E.take n := by
  conv => lhs; rw [← List.take_append_drop n E]
  rw [List.filter_append]
  have a : (E.take n).filter p = E.take n := List.filter_eq_self.mpr fun x hx => by
    obtain ⟨i, hi, rfl⟩ := List.getElem_of_mem hx
    rw [List.length_take] at hi
    rw [List.getElem_take]
    exact h1 i (by omega) (by omega)
  have b : (E.drop n).filter p = [] := List.filter_eq_nil_iff.mpr fun x hx => by
    obtain ⟨i, hi, rfl⟩ := List.getElem_of_mem hx
    rw [List.length_drop] at hi
    rw [List.getElem_drop, h2 (n + i) (by omega) (by omega)]
    exact Bool.false_ne_true
  rw [a, b, List.append_nil]
theorem filter_or_len {α : Type} {p q : α → Bool} : ∀ {E : List α}, (∀ x ∈ E, ¬ (p x = true ∧ q x = true)) → (E.filter fun x => p x || q x).length = (E.filter p).length + (E.filter q).length
  | [], _ => rfl
  | x :: E, h => by
    have ih := filter_or_len (p := p) (q := q) (E := E) fun y hy => h y (List.mem_cons_of_mem _ hy)
    have hx := h x (List.mem_cons_self ..)
    cases a : p x <;> cases b : q x
    · rw [List.filter_cons_of_neg (by rw [a, b]; decide), List.filter_cons_of_neg (by rw [a]; decide), List.filter_cons_of_neg (by rw [b]; decide), ih]
    · rw [List.filter_cons_of_pos (by rw [a, b]; decide), List.filter_cons_of_neg (by rw [a]; decide), List.filter_cons_of_pos (by rw [b]), List.length_cons, List.length_cons, ih]
      omega
    · rw [List.filter_cons_of_pos (by rw [a, b]; decide), List.filter_cons_of_pos (by rw [a]), List.filter_cons_of_neg (by rw [b]; decide), List.length_cons, List.length_cons, ih]
      omega
    · exact absurd ⟨a, b⟩ hx
/-- the range of a word: from this index .. -/
def rFirst (w : Str) (E : List E3) : Nat := (E.filter fun e => decide (TL.tl e.1 < TL.tl w)).length
/-- .. so many -/
def rMany (w : Str) (E : List E3) : Nat := (E.filter fun e => decide ((TL.tl e.1).take w.length = TL.tl w)).length
theorem prW_f (w : Str) (E : List E3) : (E.filter (prW w false)).length = rFirst w E := by
  unfold rFirst
  congr 2
  funext e
  unfold prW
  simp
theorem prW_t (w : Str) (E : List E3) : (E.filter (prW w true)).length = rFirst w E + rMany w E := by
  unfold rFirst rMany
  rw [← filter_or_len (E := E) fun e _ h => ?_]
  · rfl
  · rw [decide_eq_true_eq, decide_eq_true_eq] at h
    exact take_eq_not_lt h.2 h.1
theorem ordE_pw (h : List (Int × Str)) : (ordE h).Pairwise (fun p q => le3 p q = true) := sort3_pw _
theorem pw_at {α : Type} {r : α → α → Prop} {E : List α} (h : E.Pairwise r) (hr : ∀ x, r x x) {i j : Nat} (hi : i < E.length) (hj : j < E.length) (l : i ≤ j) : r E[i] E[j] := by
  rcases Nat.lt_or_ge i j with c | c
  · exact List.pairwise_iff_getElem.mp h i j hi hj c
  · have : i = j := by omega
    subst this
    exact hr _
theorem le3_refl (p : E3) : le3 p p = true := by
  unfold le3
  rw [decide_eq_false (lex3_irrefl p)]
  rfl
end SH
set_option Elab.async false
set_option linter.all false
set_option maxRecDepth 100000
set_option maxHeartbeats 4000000
/-! tuples of data -/
namespace SH
open PySem PySem.Spec PyProof.Rows L2
def Okd (d : PyData) : Prop := d.canLay0 = true ∧ d.depth ≤ 60
theorem okd_int (n : Int) : Okd (.int n) := ⟨rfl, Nat.zero_le _⟩
theorem okd_str {z : Str} (h : PyData.strOk z = true) : Okd (.str z) := ⟨h, Nat.zero_le _⟩
theorem okd_non : Okd .none := ⟨rfl, Nat.zero_le _⟩
theorem okd_bool (b : Bool) : Okd (.bool b) := ⟨rfl, Nat.zero_le _⟩
theorem okd_H {h : List (Int × Str)} (a : LetAll h) : Okd (dH h) := ⟨dH_lay a, dH_depth h⟩
theorem okd_Q (l : List (Int × Int)) : Okd (dQ l) := ⟨dQ_lay l, by show PyData.depthAll (l.map dP2) + 1 ≤ 60; have := dQ_deep l; omega⟩
theorem okd_I (l : List Int) : Okd (dI l) := ⟨dI_lay l, by show PyData.depthAll (l.map PyData.int) + 1 ≤ 60; rw [PySem.W.depth_ints]; decide⟩
theorem okd_P2 (q : Int × Int) : Okd (dP2 q) := ⟨rfl, by show 1 ≤ 60; decide⟩
/-- data are equal to themselves -/
theorem okd_sh {d : PyData} (h : Okd d) : SeqAt.shaped d = true ∧ PyData.eqv d d = true := ⟨shaped_of h.1 (by have := h.2; omega), SeqAt.eqv_refl _ h.1⟩
theorem dp_p2 {K : PySem.W.Frag} {H : Hp} {t : Addr} {n m : Int} (h : H t = some (.tup [.int n, .int m])) : Dp K H (.ref t) (dP2 (n, m)) := .tup (.inl (.inl h)) (.cons (.int _) (.cons (.int _) .nil))
theorem lay_all : ∀ {ds : List PyData}, (∀ d ∈ ds, d.canLay0 = true) → PyData.canLayAll0 ds = true
  | [], _ => rfl
  | d :: r, h => by
    rw [PyData.canLayAll0, h d (List.mem_cons_self ..), lay_all fun x m => h x (List.mem_cons_of_mem _ m)]
    rfl
theorem deep_all {n : Nat} : ∀ {ds : List PyData}, (∀ d ∈ ds, d.depth ≤ n) → PyData.depthAll ds ≤ n
  | [], _ => Nat.zero_le _
  | d :: r, h => by
    rw [PyData.depthAll]
    have := h d (List.mem_cons_self ..)
    have := deep_all fun x m => h x (List.mem_cons_of_mem _ m)
    omega
theorem okd_tup {ds : List PyData} (h : ∀ d ∈ ds, d.canLay0 = true) (h2 : ∀ d ∈ ds, d.depth ≤ 59) : Okd (.tuple ds) := ⟨lay_all h, by
  show PyData.depthAll ds + 1 ≤ 60
  have := deep_all h2
  omega⟩
theorem okd_list {ds : List PyData} (h : ∀ d ∈ ds, d.canLay0 = true) (h2 : ∀ d ∈ ds, d.depth ≤ 59) : Okd (.list ds) := ⟨lay_all h, by
  show PyData.depthAll ds + 1 ≤ 60
  have := deep_all h2
  omega⟩
theorem dH_d (h : List (Int × Str)) : (dH h).depth ≤ 2 := by
  show PyData.depthAll (h.map dPair) + 1 ≤ 2
  have := dH_deep h
  omega
theorem dQ_d (l : List (Int × Int)) : (dQ l).depth ≤ 2 := by
  show PyData.depthAll (l.map dP2) + 1 ≤ 2
  have := dQ_deep l
  omega
theorem dI_d (l : List Int) : (dI l).depth ≤ 1 := by
  show PyData.depthAll (l.map PyData.int) + 1 ≤ 1
  rw [PySem.W.depth_ints]
  decide
/-- a tuple of a house and its order -/
theorem okd_HQ {h : List (Int × Str)} (a : LetAll h) (l : List (Int × Int)) : Okd (.tuple [dH h, dQ l]) := okd_tup (fun d m => by
  simp only [List.mem_cons, List.not_mem_nil, or_false] at m
  rcases m with rfl | rfl
  · exact dH_lay a
  · exact dQ_lay l) fun d m => by
  simp only [List.mem_cons, List.not_mem_nil, or_false] at m
  rcases m with rfl | rfl
  · exact Nat.le_trans (dH_d h) (by decide)
  · exact Nat.le_trans (dQ_d l) (by decide)
theorem okd_HQI {h : List (Int × Str)} (a : LetAll h) (l : List (Int × Int)) (c : List Int) : Okd (.tuple [dH h, dQ l, dI c]) := okd_tup (fun d m => by
  simp only [List.mem_cons, List.not_mem_nil, or_false] at m
  rcases m with rfl | rfl | rfl
  · exact dH_lay a
  · exact dQ_lay l
  · exact dI_lay c) fun d m => by
  simp only [List.mem_cons, List.not_mem_nil, or_false] at m
  rcases m with rfl | rfl | rfl
  · exact Nat.le_trans (dH_d h) (by decide)
  · exact Nat.le_trans (dQ_d l) (by decide)
  · exact Nat.le_trans (dI_d c) (by decide)
end SH
set_option Elab.async false
set_option linter.all false
set_option maxRecDepth 100000
set_option maxHeartbeats 4000000
/-! the places of a word; pairs sorted -/
namespace SH
open PySem PySem.Spec PyProof.Rows L2
def e2 (q : Int × Int) : E3 := ("", q)
theorem p2_le {β : Type} (f : β → Int × Int) : PySem.W.dataLe false (fun b => dP2 (f b)) = fun p q => le3 (e2 (f p)) (e2 (f q)) := by
  funext p q
  show (!PySem.W.dataLt (dP2 (f q)) (dP2 (f p))) = _
  unfold dP2
  rw [PySem.W.dataLt_ii]
  unfold le3 lex3 e2
  congr 1
  refine decide_eq_decide.mpr ⟨fun h => .inr ⟨rfl, h⟩, fun h => h.elim (fun h => absurd h (List.lt_irrefl _)) fun h => h.2⟩
theorem sort_q (R : QT) : ((R.map fun z => (V.ref z.1, z.2)).mergeSort (PySem.W.dataLe false fun z => dP2 z.2)).map (·.1) = qrefs (R.mergeSort fun p q => le3 (e2 p.2) (e2 q.2)) := by
  rw [p2_le (β := V × Int × Int) (fun z => z.2), ← List.map_mergeSort (l := R) (f := fun z : Addr × Int × Int => (V.ref z.1, z.2)) (r := fun p q : Addr × Int × Int => le3 (e2 p.2) (e2 q.2)) (s := fun p q : V × Int × Int => le3 (e2 p.2) (e2 q.2)) (fun _ _ _ _ => rfl), List.map_map]
  rfl
theorem p2_alike {β : Type} (f : β → Int × Int) (bs : List β) : PySem.W.AllAlike (bs.map fun b => dP2 (f b)) := PySem.W.AllAlike.of fun b b' => by simp [dP2, PySem.W.alike, PySem.W.alikeAll]
theorem p2_able {β : Type} (f : β → Int × Int) (bs : List β) : PySem.W.Sortable (bs.map fun b => dP2 (f b)) := PySem.W.Sortable.tuples fun b => ⟨_, _, rfl⟩
theorem p2_deep (p : Int × Int) : (dP2 p).depth ≤ 60 := by
  show max 0 (max 0 0) + 1 ≤ 60
  decide
/-- pairs ascending -/
def Asc2 (l : List (Int × Int)) : Prop := (l.map e2).Pairwise (fun p q => le3 p q = true)
theorem sort_q_is {R : QT} {l : List (Int × Int)} (hp : (R.map (·.2)).Perm l) (ha : Asc2 l) : (R.mergeSort fun p q => le3 (e2 p.2) (e2 q.2)).map (·.2) = l := by
  have h1 : ((R.mergeSort fun p q => le3 (e2 p.2) (e2 q.2)).map fun z => e2 z.2) = l.map e2 := by
    refine sorted3_uniq (((List.mergeSort_perm _ _).map _).trans ?_) ?_ ha
    · have := hp.map e2
      rw [List.map_map] at this
      exact this
    · rw [List.pairwise_map]
      exact List.pairwise_mergeSort (le := fun p q : Addr × Int × Int => le3 (e2 p.2) (e2 q.2)) (fun p q r => le3_tr (e2 p.2) (e2 q.2) (e2 r.2)) (fun p q => le3_tot (e2 p.2) (e2 q.2)) R
  have h2 := congrArg (List.map (fun e : E3 => e.2)) h1
  rw [List.map_map, List.map_map] at h2
  have i1 : ((fun e : E3 => e.2) ∘ fun z : Addr × Int × Int => e2 z.2) = fun z => z.2 := rfl
  have i2 : ((fun e : E3 => e.2) ∘ e2) = id := rfl
  rw [i1, i2, List.map_id] at h2
  exact h2
/-! ### where a word stands -/
def standsP (w : Str) (z : Str) (s : Nat) : Bool := decide (((TL.tl z).drop s).take w.length = TL.tl w)
def plcOf (w : Str) (q : Int × Str) : List (Int × Int) := ((List.range (q.2.length + 1)).filter (standsP w q.2)).map fun s : Nat => (q.1, (s : Int))
def plc (h : List (Int × Str)) (w : Str) : List (Int × Int) := h.flatMap (plcOf w)
theorem stands_le {w z : Str} {s : Nat} (h : standsP w z s = true) (hs : s ≤ z.length) : s + w.length ≤ z.length := by
  have e := congrArg List.length (of_decide_eq_true h)
  rw [List.length_take, List.length_drop] at e
  have e1 : (TL.tl z).length = z.length := rfl
  have e2 : (TL.tl w).length = w.length := rfl
  omega
theorem range_cut {n k : Nat} {p : Nat → Bool} (h : ∀ s, s ≤ n → p s = true → s + k ≤ n) : (List.range (n + 1)).filter p = (List.range (n + 1 - k)).filter p := by
  rcases Nat.le_total k (n + 1) with c | c
  · have e : n + 1 = (n + 1 - k) + k := by omega
    conv => lhs; rw [e, List.range_add, List.filter_append]
    have : ((List.range k).map (fun x => n + 1 - k + x)).filter p = [] := List.filter_eq_nil_iff.mpr fun x hx hp => by
      obtain ⟨y, hy, rfl⟩ := List.mem_map.mp hx
      have := List.mem_range.mp hy
      have := h _ (by omega) hp
      omega
    rw [this, List.append_nil]
  · rw [show n + 1 - k = 0 by omega]
    show _ = []
    refine List.filter_eq_nil_iff.mpr fun x hx hp => ?_
    have := List.mem_range.mp hx
    have := h x (by omega) hp
    omega
theorem plcOf_cut (w : Str) (q : Int × Str) : plcOf w q = ((List.range (q.2.length + 1 - w.length)).filter (standsP w q.2)).map fun s : Nat => (q.1, (s : Int)) := by
  unfold plcOf
  rw [range_cut fun s hs hp => stands_le hp hs]
theorem plc_snoc (h : List (Int × Str)) (q : Int × Str) (w : Str) : plc (h ++ [q]) w = plc h w ++ plcOf w q := by
  unfold plc
  rw [List.flatMap_append]
  simp
/-- an end begins with the word -/
def begP (w : Str) (e : E3) : Bool := decide ((TL.tl e.1).take w.length = TL.tl w)
theorem plc_ends (w : Str) : ∀ (h : List (Int × Str)), ((ends3 h).filter (begP w)).map (·.2) = plc h w
  | [] => rfl
  | q :: r => by
    have e : ends3 (q :: r) = endsOf q ++ ends3 r := rfl
    have e2 : plc (q :: r) w = plcOf w q ++ plc r w := rfl
    rw [e, e2, List.filter_append, List.map_append, plc_ends w r]
    congr 1
    unfold endsOf plcOf
    rw [List.filter_map, List.map_map]
    have : (begP w ∘ fun s : Nat => (suf q.2 s, q.1, (s : Int))) = standsP w q.2 := by
      funext s
      show decide ((TL.tl (suf q.2 s)).take w.length = TL.tl w) = decide _
      rw [suf_tl]
    rw [this]
    rfl
theorem plcOf_asc (w : Str) (q : Int × Str) : ((plcOf w q).map e2).Pairwise (fun a b => le3 a b = true) := by
  unfold plcOf
  rw [List.map_map, List.pairwise_map]
  refine (List.Pairwise.filter _ (List.pairwise_lt_range (n := q.2.length + 1))).imp fun {a b} l => ?_
  unfold le3
  simp only [Bool.not_eq_true', decide_eq_false_iff_not]
  rintro (z | ⟨_, z | ⟨_, z⟩⟩)
  · exact List.lt_irrefl _ z
  · have : q.1 < q.1 := z
    omega
  · have : (b : Int) < (a : Int) := z
    omega
theorem mem_plcOf {w : Str} {q : Int × Str} {x : Int × Int} (h : x ∈ plcOf w q) : x.1 = q.1 ∧ ∃ s : Nat, x.2 = s ∧ s ≤ q.2.length ∧ standsP w q.2 s = true := by
  unfold plcOf at h
  obtain ⟨s, hs, rfl⟩ := List.mem_map.mp h
  obtain ⟨h1, h2⟩ := List.mem_filter.mp hs
  exact ⟨rfl, s, rfl, by have := List.mem_range.mp h1; omega, h2⟩
theorem plc_asc (w : Str) : ∀ {h : List (Int × Str)}, (h.map (·.1)).Pairwise (· < ·) → Asc2 (plc h w)
  | [], _ => List.Pairwise.nil
  | q :: r, asc => by
    rw [List.map_cons, List.pairwise_cons] at asc
    have ih := plc_asc w asc.2
    show ((plcOf w q ++ plc r w).map e2).Pairwise _
    rw [List.map_append, List.pairwise_append]
    refine ⟨plcOf_asc w q, ih, fun a ha b hb => ?_⟩
    obtain ⟨x, hx, rfl⟩ := List.mem_map.mp ha
    obtain ⟨y, hy, rfl⟩ := List.mem_map.mp hb
    obtain ⟨t, ht, hy⟩ := List.mem_flatMap.mp hy
    have l := asc.1 t.1 (List.mem_map_of_mem ht)
    have l1 := (mem_plcOf hx).1
    have l2 := (mem_plcOf hy).1
    unfold le3
    simp only [Bool.not_eq_true', decide_eq_false_iff_not]
    rintro (z | ⟨_, z | ⟨z, _⟩⟩)
    · exact List.lt_irrefl _ z
    · have : y.1 < x.1 := z
      omega
    · have : y.1 = x.1 := z
      omega
/-! ### the part of the order in a word's range -/
theorem anti_filter {α : Type} {p : α → Bool} : ∀ {E : List α}, E.Pairwise (fun a b => p b = true → p a = true) → E = E.filter p ++ E.filter fun x => !p x
  | [], _ => rfl
  | x :: E, h => by
    rw [List.pairwise_cons] at h
    cases c : p x with
    | true =>
      rw [List.filter_cons_of_pos c, List.filter_cons_of_neg (by rw [c]; decide), List.cons_append, ← anti_filter h.2]
    | false =>
      have no : ∀ y ∈ x :: E, p y = false := fun y hy => by
        rcases List.mem_cons.mp hy with e | m
        · rw [e]; exact c
        · cases d : p y with
          | false => rfl
          | true => rw [h.1 y m d] at c; cases c
      rw [List.filter_eq_nil_iff.mpr fun y hy => by rw [no y hy]; decide, List.nil_append]
      exact (List.filter_eq_self.mpr fun y hy => by rw [no y hy]; rfl).symm
theorem filter_take {α : Type} {p : α → Bool} {E : List α} (h : E.Pairwise (fun a b => p b = true → p a = true)) : E.take (E.filter p).length = E.filter p ∧ E.drop (E.filter p).length = E.filter fun x => !p x := by
  have e := anti_filter h
  generalize E.filter p = A at e ⊢
  generalize (E.filter fun x => !p x) = B at e ⊢
  subst e
  exact ⟨List.take_left, List.drop_left⟩
theorem rng_cut {E : List E3} (pw : E.Pairwise (fun p q => le3 p q = true)) (w : Str) : (E.drop (rFirst w E)).take (rMany w E) = E.filter (begP w) ∧ E.take (rFirst w E) = E.filter (prW w false) ∧ (E.drop (rFirst w E + rMany w E)) = E.filter (fun e => !prW w true e) := by
  have a1 := filter_take (p := prW w false) (pw.imp fun {a b} h => prW_mono h)
  rw [prW_f] at a1
  have a2 := filter_take (p := prW w true) (pw.imp fun {a b} h => prW_mono h)
  rw [prW_t] at a2
  have m : ((E.filter fun x => !prW w false x).filter (prW w true)) = E.filter (begP w) := by
    rw [List.filter_filter]
    congr 1
    funext e
    unfold prW begP
    cases c : decide ((TL.tl e.1).take w.length = TL.tl w) with
    | true =>
      rw [decide_eq_false (take_eq_not_lt (of_decide_eq_true c))]
      rfl
    | false =>
      cases decide (TL.tl e.1 < TL.tl w) <;> rfl
  have a3 := filter_take (p := prW w true) (E := E.filter fun x => !prW w false x) ((pw.filter _).imp fun {a b} h => prW_mono h)
  rw [m] at a3
  have l : (E.filter (begP w)).length = rMany w E := rfl
  rw [l] at a3
  refine ⟨?_, a1.1, a2.2⟩
  rw [a1.2]
  exact a3.1
theorem comm_take : ∀ (n : Nat) (x y : List Nat), n ≤ comm x y → x.take n = y.take n
  | 0, _, _, _ => by simp
  | n + 1, [], y, h => by simp [comm] at h
  | n + 1, _ :: _, [], h => by simp [comm] at h
  | n + 1, a :: x, b :: y, h => by
    unfold comm at h
    by_cases e : a = b
    · rw [if_pos e] at h
      rw [List.take_succ_cons, List.take_succ_cons, e, comm_take n x y (by omega)]
    · rw [if_neg e] at h
      omega
theorem take_comm : ∀ (n : Nat) (x y : List Nat), n ≤ x.length → n ≤ y.length → x.take n = y.take n → n ≤ comm x y
  | 0, _, _, _, _, _ => Nat.zero_le _
  | n + 1, [], y, h, _, _ => by simp at h
  | n + 1, _ :: _, [], _, h, _ => by simp at h
  | n + 1, a :: x, b :: y, h1, h2, e => by
    rw [List.take_succ_cons, List.take_succ_cons] at e
    unfold comm
    rw [if_pos (List.cons.inj e).1]
    have := take_comm n x y (by simpa using h1) (by simpa using h2) (List.cons.inj e).2
    omega
/-- all places of the word: a new list -/
def spPlaces (K : PySem.W.Frag) : Sp := fun vs H Q _ => ∃ (a : Addr) (L : PL) (wd : Str), vs = [.ref a, .str wd] ∧ HsAt K H a L ∧ L.length ≤ 500 ∧ (∀ q ∈ L, q.2.2.length ≤ 100) ∧ wd.length ≤ 1000 ∧
  ∀ (l : Addr) (R : QT) (H' : Hp), Same H H' → H l = none → H' l = some (.lst (qrefs R)) → QAt K H' R → R.map (·.2) = plc (L.map (·.2)) wd → Q (.ref l) H'
theorem plcOf_len (w : Str) (q : Int × Str) : (plcOf w q).length ≤ q.2.length + 1 := by
  unfold plcOf
  rw [List.length_map]
  refine Nat.le_trans (List.length_filter_le _ _) ?_
  rw [List.length_range]
  exact Nat.le_refl _
theorem plc_len {m : Nat} {w : Str} : ∀ {h : List (Int × Str)}, (∀ q ∈ h, q.2.length ≤ m) → (plc h w).length ≤ (m + 1) * h.length
  | [], _ => Nat.zero_le _
  | q :: r, a => by
    have e : plc (q :: r) w = plcOf w q ++ plc r w := rfl
    rw [e, List.length_append, List.length_cons, Nat.mul_add]
    have := a q (List.mem_cons_self ..)
    have := plcOf_len w q
    have := plc_len (w := w) fun x hx => a x (List.mem_cons_of_mem _ hx)
    omega
end SH
set_option Elab.async false
set_option linter.all false
set_option maxRecDepth 100000
set_option maxHeartbeats 4000000
/-! the different stretches, counted by the order and its commons; the least of the commons -/
namespace SH
open PySem PySem.Spec PyProof.Rows L2
/-! ### tables whose keys are what has been put -/
section
variable {κ : Type} [DecidableEq κ]
theorem keys_putK (kvs : List (κ × V)) (k : κ) (v : V) : (putK kvs k v).map (·.1) = if k ∈ kvs.map (·.1) then kvs.map (·.1) else kvs.map (·.1) ++ [k] := by
  unfold putK
  by_cases h : k ∈ kvs.map (·.1)
  · rw [if_pos h, if_pos]
    · rw [List.map_map]
      refine List.map_congr_left fun x _ => ?_
      show (if x.1 = k then (x.1, v) else x).1 = x.1
      split <;> rfl
    · obtain ⟨x, hx, e⟩ := List.mem_map.mp h
      exact List.any_eq_true.mpr ⟨x, hx, decide_eq_true e⟩
  · rw [if_neg h, if_neg, List.map_append]
    · rfl
    · intro z
      obtain ⟨x, hx, e⟩ := List.any_eq_true.mp z
      exact h (List.mem_map.mpr ⟨x, hx, of_decide_eq_true e⟩)
theorem keys_put_nd {kvs : List (κ × V)} {k : κ} {v : V} (h : (kvs.map (·.1)).Nodup) : ((putK kvs k v).map (·.1)).Nodup := by
  rw [keys_putK]
  split
  · exact h
  · rename_i n
    rw [List.nodup_append]
    exact ⟨h, by simp, fun a ha b hb e => by rw [List.mem_singleton.mp hb] at e; exact n (e ▸ ha)⟩
theorem keys_put_mem {kvs : List (κ × V)} {k j : κ} {v : V} : j ∈ (putK kvs k v).map (·.1) ↔ j ∈ kvs.map (·.1) ∨ j = k := by
  rw [keys_putK]
  split
  · rename_i h
    exact ⟨.inl, fun z => z.elim id fun e => e ▸ h⟩
  · rw [List.mem_append, List.mem_singleton]
end
theorem nd_len {α : Type} [DecidableEq α] {l m : List α} (h1 : l.Nodup) (h2 : m.Nodup) (h : ∀ x, x ∈ l ↔ x ∈ m) : l.length = m.length :=
  Nat.le_antisymm (List.Nodup.length_le_of_subset h1 fun x hx => (h x).mp hx) (List.Nodup.length_le_of_subset h2 fun x hx => (h x).mpr hx)
/-! ### beginnings -/
def isPre (p x : List Nat) : Prop := p ≠ [] ∧ x.take p.length = p
theorem isPre_len {p x : List Nat} (h : isPre p x) : p.length ≤ x.length := by
  have := congrArg List.length h.2
  rw [List.length_take] at this
  omega
/-- what the first and the last begin with, all between do -/
theorem between {x y z p : List Nat} (h1 : ¬ y < x) (h2 : ¬ z < y) (a : x.take p.length = p) (b : z.take p.length = p) : y.take p.length = p := by
  have c1 := nl_take p.length x y h1
  have c2 := nl_take p.length y z h2
  rw [a] at c1
  rw [b] at c2
  exact List.le_antisymm (List.not_lt.mp c2) (List.not_lt.mp c1)
def newP (a x : List Nat) : List (List Nat) := (List.range (x.length - comm a x)).map fun k => x.take (comm a x + k + 1)
def allP : List Nat → List (List Nat) → List (List Nat)
  | _, [] => []
  | a, x :: r => newP a x ++ allP x r
theorem mem_newP {a x p : List Nat} : p ∈ newP a x ↔ isPre p x ∧ ¬ isPre p a := by
  have cl := comm_le a x
  unfold newP
  rw [List.mem_map]
  constructor
  · rintro ⟨k, hk, rfl⟩
    have hk := List.mem_range.mp hk
    have l : (x.take (comm a x + k + 1)).length = comm a x + k + 1 := by rw [List.length_take]; omega
    refine ⟨⟨fun z => ?_, by rw [l]⟩, fun z => ?_⟩
    · rw [z] at l
      simp at l
    · have z2 := z.2
      rw [l] at z2
      have ll := congrArg List.length z2
      rw [l, List.length_take] at ll
      have := take_comm (comm a x + k + 1) a x (by omega) (by omega) z2
      omega
  · rintro ⟨h1, h2⟩
    have l1 := isPre_len h1
    have p0 : 0 < p.length := List.length_pos_iff.mpr h1.1
    have lt : comm a x < p.length := by
      rcases Nat.lt_or_ge (comm a x) p.length with c | c
      · exact c
      · have := comm_take _ _ _ c
        exact absurd ⟨h1.1, by rw [this]; exact h1.2⟩ h2
    refine ⟨p.length - comm a x - 1, List.mem_range.mpr (by omega), ?_⟩
    rw [show comm a x + (p.length - comm a x - 1) + 1 = p.length by omega]
    exact h1.2
theorem newP_nd (a x : List Nat) : (newP a x).Nodup := by
  have cl := comm_le a x
  unfold newP
  rw [List.Nodup, List.pairwise_map]
  refine (List.pairwise_lt_range (n := x.length - comm a x)).imp_of_mem fun {i j} hi hj l e => ?_
  have hi := List.mem_range.mp hi
  have hj := List.mem_range.mp hj
  have := congrArg List.length e
  rw [List.length_take, List.length_take] at this
  omega
theorem mem_allP : ∀ {a : List Nat} {W : List (List Nat)} {p : List Nat}, (a :: W).Pairwise (fun x y => ¬ y < x) → (p ∈ allP a W ↔ (∃ x ∈ W, isPre p x) ∧ ¬ isPre p a)
  | a, [], p, _ => by simp [allP]
  | a, x :: r, p, pw => by
    rw [List.pairwise_cons] at pw
    have ih := mem_allP (p := p) pw.2
    have pw2 := pw.2
    rw [List.pairwise_cons] at pw2
    show p ∈ newP a x ++ allP x r ↔ _
    rw [List.mem_append, mem_newP, ih]
    constructor
    · rintro (⟨h1, h2⟩ | ⟨⟨y, hy, h1⟩, h2⟩)
      · exact ⟨⟨x, List.mem_cons_self .., h1⟩, h2⟩
      · refine ⟨⟨y, List.mem_cons_of_mem _ hy, h1⟩, fun z => h2 ⟨h1.1, ?_⟩⟩
        exact between (pw.1 x (List.mem_cons_self ..)) (pw2.1 y hy) z.2 h1.2
    · rintro ⟨⟨y, hy, h1⟩, h2⟩
      by_cases c : isPre p x
      · exact .inl ⟨c, h2⟩
      · rcases List.mem_cons.mp hy with e | m
        · rw [e] at h1
          exact absurd h1 c
        · exact .inr ⟨⟨y, m, h1⟩, c⟩
theorem allP_nd : ∀ {a : List Nat} {W : List (List Nat)}, (a :: W).Pairwise (fun x y => ¬ y < x) → (allP a W).Nodup
  | _, [], _ => List.nodup_nil
  | a, x :: r, pw => by
    rw [List.pairwise_cons] at pw
    show (newP a x ++ allP x r).Nodup
    rw [List.nodup_append]
    refine ⟨newP_nd a x, allP_nd pw.2, fun p h1 q h2 e => ?_⟩
    subst e
    exact ((mem_allP pw.2).mp h2).2 (mem_newP.mp h1).1
def cmL : List Nat → List (List Nat) → List Int
  | _, [] => []
  | a, x :: r => (comm a x : Nat) :: cmL x r
theorem allP_len : ∀ (a : List Nat) (W : List (List Nat)), ((allP a W).length : Int) = (W.map fun x => (x.length : Int)).sum - (cmL a W).sum
  | _, [] => rfl
  | a, x :: r => by
    have cl := comm_le a x
    have ih := allP_len x r
    show ((newP a x ++ allP x r).length : Int) = ((x.length : Int) + (r.map fun x => (x.length : Int)).sum) - (((comm a x : Nat) : Int) + (cmL x r).sum)
    have l : (newP a x).length = x.length - comm a x := by unfold newP; rw [List.length_map, List.length_range]
    rw [List.length_append, l, Int.natCast_add, ih]
    omega
theorem cmL_at : ∀ (W : List (List Nat)) (a : List Nat) (k : Nat), (cmL a W)[k]? = (W[k]?).map fun x => ((comm (if k = 0 then a else (W[k - 1]?).getD []) x : Nat) : Int)
  | [], _, _ => by simp [cmL]
  | x :: r, a, 0 => rfl
  | x :: r, a, k + 1 => by
    show (cmL x r)[k]? = _
    rw [cmL_at r x k]
    show (r[k]?).map _ = (r[k]?).map _
    congr 1
    funext y
    cases k with
    | zero => rfl
    | succ k => rfl
theorem letsAt_map (E : List E3) (k : Nat) : letsAt E k = ((E.map fun e => TL.tl e.1)[k]?).getD [] := by
  unfold letsAt
  rw [List.getElem?_map]
theorem cmsE_cmL (E : List E3) : cmsE E = cmL [] (E.map fun e => TL.tl e.1) := by
  refine List.ext_getElem? fun k => ?_
  rw [cmL_at, show (E.map fun e => TL.tl e.1)[k]? = (E[k]?).map fun e => TL.tl e.1 from List.getElem?_map ..]
  unfold cmsE
  rw [List.getElem?_map]
  rcases Nat.lt_or_ge k E.length with h | h
  · rw [List.getElem?_range h, List.getElem?_eq_getElem h]
    show some _ = some _
    congr 1
    by_cases c : k = 0
    · rw [if_pos c]
      show (if k = 0 then (0 : Int) else cmAt E (k - 1)) = ((comm [] _ : Nat) : Int)
      rw [if_pos c]
      simp [comm]
    · rw [if_neg c]
      show (if k = 0 then (0 : Int) else cmAt E (k - 1)) = ((comm _ _ : Nat) : Int)
      rw [if_neg c]
      unfold cmAt
      rw [letsAt_map, show k - 1 + 1 = k by omega, letsAt_eq (List.getElem?_eq_getElem h)]
  · rw [List.getElem?_eq_none (by rw [List.length_range]; exact h), List.getElem?_eq_none h]
    rfl
/-- a stretch of the house -/
def isStr (h : List (Int × Str)) (p : List Nat) : Prop := ∃ q ∈ h, ∃ s : Nat, s ≤ q.2.length ∧ isPre p ((TL.tl q.2).drop s)
theorem ordE_lets (h : List (Int × Str)) : (([] : List Nat) :: (ordE h).map fun e => TL.tl e.1).Pairwise (fun x y => ¬ y < x) := by
  rw [List.pairwise_cons]
  refine ⟨fun x _ z => (by cases z), ?_⟩
  rw [List.pairwise_map]
  exact (ordE_pw h).imp fun h => le3_letters h
theorem mem_strs {h : List (Int × Str)} {p : List Nat} : p ∈ allP [] ((ordE h).map fun e => TL.tl e.1) ↔ isStr h p := by
  rw [mem_allP (ordE_lets h)]
  constructor
  · rintro ⟨⟨x, hx, hp⟩, _⟩
    obtain ⟨e, he, rfl⟩ := List.mem_map.mp hx
    obtain ⟨q, hq, s, hs, rfl⟩ := mem_ends3.mp (mem_ordE.mp he)
    rw [show TL.tl (suf q.2 s, q.1, (s : Int)).1 = (TL.tl q.2).drop s from suf_tl _ _] at hp
    exact ⟨q, hq, s, hs, hp⟩
  · rintro ⟨q, hq, s, hs, hp⟩
    refine ⟨⟨_, List.mem_map.mpr ⟨_, mem_ordE.mpr (mem_ends3.mpr ⟨q, hq, s, hs, rfl⟩), rfl⟩, ?_⟩, fun z => ?_⟩
    · show isPre p (TL.tl (suf q.2 s))
      rw [suf_tl]
      exact hp
    · have := isPre_len z
      exact z.1 (List.eq_nil_of_length_eq_zero (by simpa using this))
/-- how many -/
def strN (h : List (Int × Str)) : Nat := (allP [] ((ordE h).map fun e => TL.tl e.1)).length
theorem strN_eq (h : List (Int × Str)) : (strN h : Int) = ((ordE h).map fun e => (e.1.length : Int)).sum - (cmsE (ordE h)).sum := by
  unfold strN
  rw [allP_len, ← cmsE_cmL, List.map_map]
  rfl
/-- any list of all stretches, each once, has as many -/
theorem strN_of {h : List (Int × Str)} {l : List (List Nat)} (nd : l.Nodup) (hm : ∀ p, p ∈ l ↔ isStr h p) : l.length = strN h :=
  nd_len nd (allP_nd (ordE_lets h)) fun p => (hm p).trans mem_strs.symm
/-! ### the common of two ends that are not neighbours -/
theorem comm_mid {x y z : List Nat} (h1 : ¬ y < x) (h2 : ¬ z < y) : comm x z ≤ comm x y ∧ comm x z ≤ comm y z := by
  have l := comm_le x z
  have e := comm_take (comm x z) x z (Nat.le_refl _)
  have pl : (x.take (comm x z)).length = comm x z := by rw [List.length_take]; omega
  have b : y.take (comm x z) = x.take (comm x z) := by
    have := between (p := x.take (comm x z)) h1 h2 (by rw [pl]) (by rw [pl]; exact e.symm)
    rw [pl] at this
    exact this
  have yl : comm x z ≤ y.length := by
    have := congrArg List.length b
    rw [List.length_take, pl] at this
    omega
  exact ⟨take_comm _ _ _ l.1 yl b.symm, take_comm _ _ _ yl l.2 (b.trans e)⟩
theorem comm_tri {x y z : List Nat} {m : Nat} (h1 : m ≤ comm x y) (h2 : m ≤ comm y z) : m ≤ comm x z := by
  have l1 := comm_le x y
  have l2 := comm_le y z
  exact take_comm m x z (by omega) (by omega) ((comm_take m x y h1).trans (comm_take m y z h2))
section
variable {E : List E3} (pw : E.Pairwise (fun p q => le3 p q = true))
include pw
theorem lets_mono {i j : Nat} (h : i ≤ j) (hj : j < E.length) : ¬ letsAt E j < letsAt E i := by
  rw [letsAt_eq (List.getElem?_eq_getElem hj), letsAt_eq (List.getElem?_eq_getElem (by omega : i < E.length))]
  exact le3_letters (pw_at pw le3_refl (by omega) hj h)
theorem comm_le_cm {i j k : Nat} (h1 : i < k) (h2 : k ≤ j) (hj : j < E.length) : ((comm (letsAt E i) (letsAt E j) : Nat) : Int) ≤ cmAt E (k - 1) := by
  have a := (comm_mid (lets_mono pw (i := i) (j := k) (by omega) (by omega)) (lets_mono pw (i := k) (j := j) h2 hj)).1
  have b := (comm_mid (lets_mono pw (i := i) (j := k - 1) (by omega) (by omega)) (lets_mono pw (i := k - 1) (j := k) (by omega) (by omega))).2
  unfold cmAt
  rw [show k - 1 + 1 = k by omega]
  omega
theorem le_comm {i : Nat} {m : Int} : ∀ (d : Nat), (∀ k, i < k → k ≤ i + 1 + d → m ≤ cmAt E (k - 1)) → m ≤ ((comm (letsAt E i) (letsAt E (i + 1 + d)) : Nat) : Int)
  | 0, h => by
    have := h (i + 1) (by omega) (by omega)
    unfold cmAt at this
    exact this
  | d + 1, h => by
    have ih := le_comm d fun k a b => h k a (by omega)
    have := h (i + 1 + d + 1) (by omega) (by omega)
    unfold cmAt at this
    rw [show i + 1 + d + 1 - 1 + 1 = i + 1 + d + 1 by omega, show i + 1 + d + 1 - 1 = i + 1 + d by omega] at this
    by_cases c : m < 0
    · omega
    · obtain ⟨n, rfl⟩ : ∃ n : Nat, m = n := ⟨m.toNat, by omega⟩
      have := comm_tri (m := n) (x := letsAt E i) (y := letsAt E (i + 1 + d)) (z := letsAt E (i + 1 + d + 1)) (by omega) (by omega)
      show (n : Int) ≤ ((comm (letsAt E i) (letsAt E (i + 1 + d + 1)) : Nat) : Int)
      omega
/-- the least of the commons behind the first up to the second -/
theorem least_is {i j : Nat} (hij : i < j) (hj : j < E.length) {m : Int} (h1 : ∃ k, i < k ∧ k ≤ j ∧ m = cmAt E (k - 1)) (h2 : ∀ k, i < k → k ≤ j → m ≤ cmAt E (k - 1)) : m = ((comm (letsAt E i) (letsAt E j) : Nat) : Int) := by
  obtain ⟨k, k1, k2, rfl⟩ := h1
  have a := comm_le_cm pw k1 k2 hj
  have b := le_comm pw (i := i) (j - (i + 1)) fun k x y => h2 k x (by omega)
  rw [show i + 1 + (j - (i + 1)) = j by omega] at b
  omega
end
end SH
set_option Elab.async false
set_option linter.all false
set_option maxRecDepth 100000
set_option maxHeartbeats 4000000
/-! all stretches gone through; slices -/
namespace SH
open PySem PySem.Spec PyProof.Rows L2
def cuts (z : Str) (s : Nat) : List (List Nat) := (List.range (z.length - s)).map fun k => ((TL.tl z).drop s).take (k + 1)
def cutsZ (z : Str) : List (List Nat) := (List.range z.length).flatMap (cuts z)
def cutsH (h : List (Int × Str)) : List (List Nat) := h.flatMap fun q => cutsZ q.2
theorem mem_cuts {z : Str} {s : Nat} {p : List Nat} : p ∈ cuts z s ↔ isPre p ((TL.tl z).drop s) := by
  unfold cuts
  rw [List.mem_map]
  have zl : (TL.tl z).length = z.length := rfl
  constructor
  · rintro ⟨k, hk, rfl⟩
    have hk := List.mem_range.mp hk
    have l : (((TL.tl z).drop s).take (k + 1)).length = k + 1 := by rw [List.length_take, List.length_drop]; omega
    refine ⟨fun e => ?_, by rw [l]⟩
    rw [e] at l
    simp at l
  · intro h
    have l := isPre_len h
    rw [List.length_drop] at l
    have p0 : 0 < p.length := List.length_pos_iff.mpr h.1
    refine ⟨p.length - 1, List.mem_range.mpr (by omega), ?_⟩
    rw [show p.length - 1 + 1 = p.length by omega]
    exact h.2
theorem mem_cutsZ {z : Str} {p : List Nat} : p ∈ cutsZ z ↔ ∃ s : Nat, s ≤ z.length ∧ isPre p ((TL.tl z).drop s) := by
  unfold cutsZ
  rw [List.mem_flatMap]
  constructor
  · rintro ⟨s, hs, hp⟩
    exact ⟨s, Nat.le_of_lt (List.mem_range.mp hs), mem_cuts.mp hp⟩
  · rintro ⟨s, hs, hp⟩
    refine ⟨s, List.mem_range.mpr ?_, mem_cuts.mpr hp⟩
    rcases Nat.lt_or_ge s z.length with c | c
    · exact c
    · have := isPre_len hp
      have zl : (TL.tl z).length = z.length := rfl
      rw [List.length_drop] at this
      exact absurd (List.eq_nil_of_length_eq_zero (by omega : p.length = 0)) hp.1
theorem mem_cutsH {h : List (Int × Str)} {p : List Nat} : p ∈ cutsH h ↔ isStr h p := by
  unfold cutsH
  rw [List.mem_flatMap]
  constructor
  · rintro ⟨q, hq, hp⟩
    exact ⟨q, hq, mem_cutsZ.mp hp⟩
  · rintro ⟨q, hq, hp⟩
    exact ⟨q, hq, mem_cutsZ.mpr hp⟩
theorem cutsH_snoc (h : List (Int × Str)) (q : Int × Str) : cutsH (h ++ [q]) = cutsH h ++ cutsZ q.2 := by
  unfold cutsH
  rw [List.flatMap_append]
  simp
theorem flat_range {α : Type} (f : Nat → List α) (n : Nat) : (List.range (n + 1)).flatMap f = (List.range n).flatMap f ++ f n := by
  rw [List.range_succ, List.flatMap_append]
  simp
/-- the keys of a table are these words -/
def KeyW (kvs : List (Key × V)) (S : List (List Nat)) : Prop := (kvs.map (·.1)).Nodup ∧ ∀ k : Key, k ∈ kvs.map (·.1) ↔ ∃ z : Str, k = .inr z ∧ TL.tl z ∈ S
theorem KeyW.put {kvs : List (Key × V)} {S : List (List Nat)} (h : KeyW kvs S) (z : Str) (v : V) : KeyW (putK kvs (.inr z) v) (S ++ [TL.tl z]) := by
  refine ⟨keys_put_nd h.1, fun k => ?_⟩
  rw [keys_put_mem, h.2]
  constructor
  · rintro (⟨y, rfl, hy⟩ | rfl)
    · exact ⟨y, rfl, List.mem_append_left _ hy⟩
    · exact ⟨z, rfl, List.mem_append_right _ (List.mem_singleton.mpr rfl)⟩
  · rintro ⟨y, rfl, hy⟩
    rcases List.mem_append.mp hy with m | m
    · exact .inl ⟨y, rfl, m⟩
    · exact .inr (congrArg Sum.inr (str_ext (List.mem_singleton.mp m)))
theorem KeyW.nil : KeyW [] [] := ⟨List.nodup_nil, fun k => by simp⟩
theorem KeyW.eq {kvs : List (Key × V)} {S S' : List (List Nat)} (h : KeyW kvs S) (e : S = S') : KeyW kvs S' := e ▸ h
def keyL : Key → List Nat
  | .inl _ => []
  | .inr z => TL.tl z
theorem KeyW.len {kvs : List (Key × V)} {h : List (Int × Str)} (k : KeyW kvs (cutsH h)) : kvs.length = strN h := by
  have : ((kvs.map (·.1)).map keyL).length = strN h := by
    refine strN_of ?_ fun p => ?_
    · rw [List.Nodup, List.pairwise_map]
      refine (show (kvs.map (·.1)).Pairwise (· ≠ ·) from k.1).imp_of_mem fun {a b} ha hb ne e => ?_
      obtain ⟨x, rfl, _⟩ := (k.2 a).mp ha
      obtain ⟨y, rfl, _⟩ := (k.2 b).mp hb
      exact ne (congrArg Sum.inr (str_ext e))
    · rw [← mem_cutsH, List.mem_map]
      constructor
      · rintro ⟨a, ha, rfl⟩
        obtain ⟨x, rfl, hx⟩ := (k.2 a).mp ha
        exact hx
      · intro hp
        have e : TL.tl (⟨p.toArray⟩ : Str) = p := rfl
        exact ⟨.inr ⟨p.toArray⟩, (k.2 _).mpr ⟨_, rfl, by rw [e]; exact hp⟩, rfl⟩
  rw [List.length_map, List.length_map] at this
  exact this
theorem cut_ab (xs : List V) {a b : Nat} (h1 : a ≤ b) (h : b ≤ xs.length) : cutV xs (some (a : Int)) (some (b : Int)) = (xs.drop a).take (b - a) := by
  unfold cutV
  rw [HT.sIx_nat, HT.sIx_nat, Nat.min_eq_left h, Nat.min_eq_left (by omega)]
end SH
set_option Elab.async false
set_option linter.all false
set_option maxRecDepth 100000
set_option maxHeartbeats 4000000
/-! houses with a pair more or less -/
namespace SH
open PySem PySem.Spec PyProof.Rows L2
def spIsLetter : Sp := fun vs H Q _ => ∃ c : Nat, vs = [.str ⟨#[c]⟩] ∧ Q (.bl (okc c)) H
def spIsText : Sp := fun vs H Q _ => ∃ z : Str, vs = [.str z] ∧ z.length ≤ 1000 ∧ ∀ H', Same H H' → Q (.bl (isTxt z)) H'
def spHasNumber (K : PySem.W.Frag) : Sp := fun vs H Q _ => ∃ (a : Addr) (L : PL) (n : Int), vs = [.ref a, .int n] ∧ HsAt K H a L ∧ L.length ≤ 1000 ∧ ∀ H', Same H H' → Q (.bl (decide (n ∈ L.map fun q => q.2.1))) H'
theorem inV_ints (n : Int) (l : List Int) : inV (.int n) (l.map V.int) = decide (n ∈ l) := by
  unfold inV
  induction l with
  | nil => simp
  | cons x r ih =>
    rw [List.map_cons, List.any_cons, ih]
    show (x == n || decide (n ∈ r)) = decide (n ∈ x :: r)
    by_cases h : x = n
    · subst h
      simp
    · have h2 : (x == n) = false := by simpa using h
      have h3 : ¬ n = x := fun z => h z.symm
      rw [h2]
      simp [h3]
theorem refs_at {L : PL} {i : Nat} {x : V} (h : (refs L)[i]? = some x) : ∃ t, L[i]? = some t ∧ t ∈ L ∧ x = .ref t.1 := by
  unfold refs at h
  rw [List.getElem?_map] at h
  cases e : L[i]? with
  | none => rw [e] at h; cases h
  | some t =>
    rw [e] at h
    cases h
    exact ⟨t, rfl, List.mem_of_getElem? e, rfl⟩
theorem drop_at {α : Type} {l : List α} {i : Nat} {x : α} (h : l[i]? = some x) : l.drop i = x :: l.drop (i + 1) := by
  obtain ⟨hi, e⟩ := List.getElem?_eq_some_iff.mp h
  rw [List.drop_eq_getElem_cons hi, e]
/-- a new house is handed back: a new list p of pairs, as pure data h -/
def NewHs (K : PySem.W.Frag) (Q : VK) (H : Hp) (h : List (Int × Str)) : Prop := ∀ (p : Addr) (L' : PL) (H' : Hp), Same H H' → H p = none → H' p = some (.lst (refs L')) → PairsAt K H' L' → L'.map (·.2) = h → Q (.ref p) H'
/-- with a pair more, in its place -/
def ins (n : Int) (z : Str) (h : List (Int × Str)) : List (Int × Str) := h.filter (fun q => decide (q.1 < n)) ++ [(n, z)] ++ h.filter (fun q => decide (n < q.1))
theorem asc_uniq : ∀ {l m : List (Int × Str)}, l.Perm m → l.Pairwise (fun q r => q.1 < r.1) → m.Pairwise (fun q r => q.1 < r.1) → l = m
  | [], m, p, _, _ => (List.Perm.eq_nil p.symm).symm
  | x :: l, [], p, _, _ => absurd p.length_eq (by simp)
  | x :: l, y :: m, p, hl, hm => by
    rw [List.pairwise_cons] at hl hm
    have e : x = y := by
      rcases List.mem_cons.mp (p.mem_iff.mp (List.mem_cons_self ..)) with e | hx
      · exact e
      · rcases List.mem_cons.mp (p.mem_iff.mpr (List.mem_cons_self ..)) with e | hy
        · exact e.symm
        · have a := hm.1 x hx
          have b := hl.1 y hy
          omega
    subst e
    rw [asc_uniq p.cons_inv hl.2 hm.2]
theorem ins_perm {n : Int} {z : Str} : ∀ {h : List (Int × Str)}, n ∉ h.map (·.1) → (ins n z h).Perm (h ++ [(n, z)])
  | [], _ => List.Perm.refl _
  | q :: r, hn => by
    rw [List.map_cons, List.mem_cons, not_or] at hn
    have ih := ins_perm (z := z) hn.2
    unfold ins at ih ⊢
    by_cases h1 : q.1 < n
    · rw [List.filter_cons_of_pos (by simpa using h1), List.filter_cons_of_neg (by simp; omega)]
      exact ih.cons q
    · rw [List.filter_cons_of_neg (by simpa using h1), List.filter_cons_of_pos (by simp; omega)]
      have p1 := List.perm_middle (a := q) (l₁ := r.filter (fun q => decide (q.1 < n)) ++ [(n, z)]) (l₂ := r.filter (fun q => decide (n < q.1)))
      exact p1.trans (ih.cons q)
theorem ins_asc {n : Int} {z : Str} {h : List (Int × Str)} (a : h.Pairwise (fun q r => q.1 < r.1)) : (ins n z h).Pairwise (fun q r => q.1 < r.1) := by
  unfold ins
  rw [List.pairwise_append, List.pairwise_append]
  refine ⟨⟨a.filter _, by simp, fun x hx y hy => ?_⟩, a.filter _, fun x hx y hy => ?_⟩
  · have h1 := (List.mem_filter.mp hx).2
    rw [List.mem_singleton.mp hy]
    simpa using h1
  · have h2 := (List.mem_filter.mp hy).2
    have h2' : n < y.1 := by simpa using h2
    rcases List.mem_append.mp hx with m | m
    · have h1 := (List.mem_filter.mp m).2
      have h1' : x.1 < n := by simpa using h1
      omega
    · rw [List.mem_singleton.mp m]
      exact h2'
theorem IsHs.pw {m : Nat} {h : List (Int × Str)} (a : IsHs m h) : h.Pairwise (fun q r => q.1 < r.1) := List.pairwise_map.mp a.asc
end SH
set_option Elab.async false
set_option linter.all false
set_option maxRecDepth 100000
set_option maxHeartbeats 4000000
/-! a dict of words, each with the list of the numbers of the texts where it stands -/
namespace SH
open PySem PySem.Spec PyProof.Rows L2
abbrev WT := List (Str × Addr × List Int)
def wkvs (T : WT) : List (Key × V) := T.map fun e => ((Sum.inr e.1 : Key), V.ref e.2.1)
/-- what has been met: words and numbers, in order -/
abbrev Occ := List (Str × Int)
structure Wd (H0 H : Hp) (D : Addr) (T : WT) : Prop where
  at_ : H D = some (.dK (wkvs T))
  sm : Same H0 H
  nD : H0 D = none
  kd : (T.map (·.1)).Nodup
  rd : (T.map (·.2.1)).Nodup
  row : ∀ e ∈ T, H e.2.1 = some (.lst (e.2.2.map V.int)) ∧ H0 e.2.1 = none
/-- it tells what has been met -/
structure WdOf (T : WT) (O : Occ) : Prop where
  mem : ∀ z, z ∈ T.map (·.1) ↔ z ∈ O.map (·.1)
  val : ∀ e ∈ T, e.2.2 = (O.filter fun o => decide (o.1 = e.1)).map (·.2)
theorem wkvs_keys (T : WT) : (wkvs T).map (·.1) = (T.map (·.1)).map fun z => (Sum.inr z : Key) := by
  unfold wkvs
  rw [List.map_map, List.map_map]
  rfl
theorem Wd.val_of {H0 H : Hp} {D : Addr} {T : WT} (h : Wd H0 H D T) {e : Str × Addr × List Int} (he : e ∈ T) : valV (wkvs T) (.inr e.1) = some (.ref e.2.1) := by
  have kd := h.kd
  unfold wkvs
  clear h
  induction T with
  | nil => cases he
  | cons a r ih =>
    rw [List.map_cons] at kd ⊢
    rw [List.nodup_cons] at kd
    unfold valV
    rcases List.mem_cons.mp he with e1 | m
    · subst e1
      rw [List.find?_cons_of_pos (by simp)]
      rfl
    · have ne : ¬ a.1 = e.1 := fun z => kd.1 (by rw [z]; exact List.mem_map_of_mem m)
      rw [List.find?_cons_of_neg (by simpa using ne)]
      exact ih m kd.2
theorem wkvs_none {T : WT} {z : Str} (h : z ∉ T.map (·.1)) : valV (wkvs T) (.inr z) = none := by
  unfold valV
  rw [List.find?_eq_none.mpr fun x hx => ?_]
  · rfl
  · unfold wkvs at hx
    obtain ⟨e, he, rfl⟩ := List.mem_map.mp hx
    have : ¬ e.1 = z := fun y => h (y ▸ List.mem_map_of_mem he)
    simpa using this
theorem wkvs_put {T : WT} {z : Str} {r : Addr} (h : z ∉ T.map (·.1)) : putK (wkvs T) (.inr z) (.ref r) = wkvs (T ++ [(z, r, [])]) := by
  unfold putK
  rw [if_neg, show wkvs (T ++ [(z, r, [])]) = wkvs T ++ [((Sum.inr z : Key), V.ref r)] by unfold wkvs; rw [List.map_append]; rfl]
  intro y
  obtain ⟨x, hx, e⟩ := List.any_eq_true.mp y
  unfold wkvs at hx
  obtain ⟨e2, he, rfl⟩ := List.mem_map.mp hx
  have := of_decide_eq_true e
  exact h ((Sum.inr.inj this) ▸ List.mem_map_of_mem he)
def bump (T : WT) (z : Str) (n : Int) : WT := T.map fun x => if x.1 = z then (x.1, x.2.1, x.2.2 ++ [n]) else x
theorem bump_keys (T : WT) (z : Str) (n : Int) : (bump T z n).map (·.1) = T.map (·.1) := by
  unfold bump
  rw [List.map_map]
  refine List.map_congr_left fun x _ => ?_
  show (if x.1 = z then (x.1, x.2.1, x.2.2 ++ [n]) else x).1 = x.1
  split <;> rfl
theorem bump_refs (T : WT) (z : Str) (n : Int) : (bump T z n).map (·.2.1) = T.map (·.2.1) := by
  unfold bump
  rw [List.map_map]
  refine List.map_congr_left fun x _ => ?_
  show (if x.1 = z then (x.1, x.2.1, x.2.2 ++ [n]) else x).2.1 = x.2.1
  split <;> rfl
theorem bump_kvs (T : WT) (z : Str) (n : Int) : wkvs (bump T z n) = wkvs T := by
  unfold bump wkvs
  rw [List.map_map]
  refine List.map_congr_left fun x _ => ?_
  show ((Sum.inr (if x.1 = z then (x.1, x.2.1, x.2.2 ++ [n]) else x).1 : Key), V.ref (if x.1 = z then (x.1, x.2.1, x.2.2 ++ [n]) else x).2.1) = _
  split <;> rfl
theorem Wd.rne {H0 H : Hp} {D : Addr} {T : WT} (h : Wd H0 H D T) {e : Str × Addr × List Int} (he : e ∈ T) : e.2.1 ≠ D := fun z => by
  have := (h.row e he).1
  rw [z, h.at_] at this
  cases this
theorem nodup_key {T : WT} (h : (T.map (·.1)).Nodup) {e f : Str × Addr × List Int} (he : e ∈ T) (hf : f ∈ T) (k : e.1 = f.1) : e = f := by
  induction T with
  | nil => cases he
  | cons a r ih =>
    rw [List.map_cons, List.nodup_cons] at h
    rcases List.mem_cons.mp he with e1 | m1 <;> rcases List.mem_cons.mp hf with e2 | m2
    · rw [e1, e2]
    · exact (h.1 (by rw [← e1, k]; exact List.mem_map_of_mem (f := fun x : Str × Addr × List Int => x.1) m2)).elim
    · exact (h.1 (by rw [← e2, ← k]; exact List.mem_map_of_mem (f := fun x : Str × Addr × List Int => x.1) m1)).elim
    · exact ih h.2 m1 m2
theorem nodup_ref {T : WT} (h : (T.map (·.2.1)).Nodup) {e f : Str × Addr × List Int} (he : e ∈ T) (hf : f ∈ T) (k : e.2.1 = f.2.1) : e = f := by
  induction T with
  | nil => cases he
  | cons a r ih =>
    rw [List.map_cons, List.nodup_cons] at h
    rcases List.mem_cons.mp he with e1 | m1 <;> rcases List.mem_cons.mp hf with e2 | m2
    · rw [e1, e2]
    · exact (h.1 (by rw [← e1, k]; exact List.mem_map_of_mem (f := fun x : Str × Addr × List Int => x.2.1) m2)).elim
    · exact (h.1 (by rw [← e2, ← k]; exact List.mem_map_of_mem (f := fun x : Str × Addr × List Int => x.2.1) m1)).elim
    · exact ih h.2 m1 m2
/-- a word more -/
theorem Wd.new {H0 H : Hp} {D : Addr} {T : WT} (h : Wd H0 H D T) {z : Str} (hz : z ∉ T.map (·.1)) {r : Addr} (nr : H r = none) : Wd H0 (upd (upd H r (.lst [])) D (.dK (wkvs (T ++ [(z, r, [])])))) D (T ++ [(z, r, [])]) := by
  have rD : r ≠ D := fun e => by rw [e, h.at_] at nr; cases nr
  refine ⟨upd_same, same_mut (h.sm.trans (same_new nr)) h.nD, h.nD, ?_, ?_, fun e m => ?_⟩
  · rw [List.map_append, List.nodup_append]
    exact ⟨h.kd, by simp, fun a ha b hb e => by rw [List.mem_singleton.mp hb] at e; exact hz (by rw [← show a = z from e]; exact ha)⟩
  · rw [List.map_append, List.nodup_append]
    refine ⟨h.rd, by simp, fun a ha b hb e => ?_⟩
    rw [List.mem_singleton.mp hb] at e
    obtain ⟨x, hx, rfl⟩ := List.mem_map.mp ha
    have := (h.row x hx).1
    rw [show x.2.1 = r from e, nr] at this
    cases this
  · rcases List.mem_append.mp m with m | m
    · rw [upd_ne (h.rne m)]
      exact ⟨same_new nr _ _ (h.row e m).1, (h.row e m).2⟩
    · rw [List.mem_singleton.mp m]
      exact ⟨by rw [upd_ne rD]; exact upd_same, h.sm.free nr⟩
/-- a number more behind a word -/
theorem Wd.app {H0 H : Hp} {D : Addr} {T : WT} (h : Wd H0 H D T) {e : Str × Addr × List Int} (he : e ∈ T) (n : Int) : Wd H0 (upd H e.2.1 (.lst (e.2.2.map V.int ++ [.int n]))) D (bump T e.1 n) := by
  refine ⟨?_, same_mut h.sm (h.row e he).2, h.nD, by rw [bump_keys]; exact h.kd, by rw [bump_refs]; exact h.rd, fun x hx => ?_⟩
  · rw [upd_ne (fun z => h.rne he z.symm), bump_kvs]
    exact h.at_
  · unfold bump at hx
    obtain ⟨y, hy, rfl⟩ := List.mem_map.mp hx
    by_cases c : y.1 = e.1
    · have := nodup_key h.kd hy he c
      subst this
      rw [if_pos rfl]
      exact ⟨by rw [List.map_append]; exact upd_same, (h.row y hy).2⟩
    · rw [if_neg c]
      rw [upd_ne (fun z => c (congrArg (·.1) (nodup_ref h.rd hy he z)))]
      exact h.row y hy
theorem WdOf.bump {T : WT} {O : Occ} {z : Str} {n : Int} (hs : ∀ y, y ∈ T.map (·.1) ↔ y ∈ O.map (·.1) ∨ y = z) (hv : ∀ e ∈ T, e.2.2 = (O.filter fun o => decide (o.1 = e.1)).map (·.2)) : WdOf (SH.bump T z n) (O ++ [(z, n)]) := by
  refine ⟨fun y => ?_, fun e he => ?_⟩
  · rw [bump_keys, hs y, List.map_append, List.mem_append]
    exact or_congr Iff.rfl List.mem_singleton.symm
  · unfold SH.bump at he
    obtain ⟨x, hx, rfl⟩ := List.mem_map.mp he
    rw [List.filter_append, List.map_append]
    by_cases c : x.1 = z
    · rw [if_pos c]
      show x.2.2 ++ [n] = (O.filter fun o => decide (o.1 = x.1)).map (·.2) ++ ([((z, n) : Str × Int)].filter fun o => decide (o.1 = x.1)).map (·.2)
      rw [← hv x hx, List.filter_cons_of_pos (p := fun o : Str × Int => decide (o.1 = x.1)) (decide_eq_true (show z = x.1 from c.symm))]
      rfl
    · rw [if_neg c]
      show x.2.2 = (O.filter fun o => decide (o.1 = x.1)).map (·.2) ++ ([((z, n) : Str × Int)].filter fun o => decide (o.1 = x.1)).map (·.2)
      rw [← hv x hx, List.filter_cons_of_neg (p := fun o : Str × Int => decide (o.1 = x.1)) (by simpa using fun y : z = x.1 => c y.symm)]
      exact (List.append_nil _).symm
theorem Wd.same {H0 H H' : Hp} {D : Addr} {T : WT} (s : Same H H') (h : Wd H0 H D T) : Wd H0 H' D T := ⟨s _ _ h.at_, h.sm.trans s, h.nD, h.kd, h.rd, fun e m => ⟨s _ _ (h.row e m).1, (h.row e m).2⟩⟩
/-! ### the stretches of a house -/
def cutN (z : Str) (a b : Nat) : Str := cutS z (some (a : Int)) (some (b : Int))
def occA (z : Str) (n : Int) (a : Nat) (m : Nat) : Occ := (List.range m).map fun k => (cutN z a (a + 1 + k), n)
def occQ (q : Int × Str) (m : Nat) : Occ := (List.range m).flatMap fun a => occA q.2 q.1 a (q.2.length - a)
def occ (h : List (Int × Str)) : Occ := h.flatMap fun q => occQ q q.2.length
theorem occA_succ (z : Str) (n : Int) (a m : Nat) : occA z n a (m + 1) = occA z n a m ++ [(cutN z a (a + 1 + m), n)] := by
  unfold occA
  rw [List.range_succ, List.map_append]
  rfl
theorem occQ_succ (q : Int × Str) (m : Nat) : occQ q (m + 1) = occQ q m ++ occA q.2 q.1 m (q.2.length - m) := by
  unfold occQ
  rw [List.range_succ, List.flatMap_append]
  simp
theorem occ_snoc (h : List (Int × Str)) (q : Int × Str) : occ (h ++ [q]) = occ h ++ occQ q q.2.length := by
  unfold occ
  rw [List.flatMap_append]
  simp
end SH
set_option Elab.async false
set_option linter.all false
set_option maxRecDepth 100000
set_option maxHeartbeats 4000000
/-! all stretches, each once, by their number of letters and then as texts -/
namespace SH
open PySem PySem.Spec PyProof.Rows L2
def leL (x y : Str) : Prop := x.length < y.length ∨ (x.length = y.length ∧ x.cps.toList ≤ y.cps.toList)
structure StrL (O : List Str) (l : List Str) : Prop where
  nd : l.Nodup
  pw : l.Pairwise leL
  mem : ∀ z, z ∈ l ↔ z ∈ O
theorem two_of {α : Type} [DecidableEq α] : ∀ {l : List α} {a b : α}, a ∈ l → b ∈ l → a ≠ b → [a, b].Sublist l ∨ [b, a].Sublist l
  | x :: r, a, b, ha, hb, n => by
    rcases List.mem_cons.mp ha with e1 | m1 <;> rcases List.mem_cons.mp hb with e2 | m2
    · exact absurd (e1.trans e2.symm) n
    · subst e1
      exact .inl ((List.singleton_sublist.mpr m2).cons_cons a)
    · subst e2
      exact .inr ((List.singleton_sublist.mpr m1).cons_cons b)
    · rcases two_of m1 m2 n with h | h
      · exact .inl (h.cons x)
      · exact .inr (h.cons x)
theorem two_not {α : Type} : ∀ {l : List α} {a b : α}, l.Nodup → [a, b].Sublist l → [b, a].Sublist l → False
  | x :: r, a, b, nd, h1, h2 => by
    obtain ⟨nx, nr⟩ := List.nodup_cons.mp nd
    rcases List.sublist_cons_iff.mp h1 with h1 | ⟨r1, e1, h1⟩ <;> rcases List.sublist_cons_iff.mp h2 with h2 | ⟨r2, e2, h2⟩
    · exact two_not nr h1 h2
    · cases e2
      exact nx (h1.subset (by simp))
    · cases e1
      exact nx (h2.subset (by simp))
    · cases e1
      cases e2
      exact nx (List.singleton_sublist.mp h1)
theorem lenSort {l : List Str} (nd : l.Nodup) (pw : l.Pairwise fun x y => x.cps.toList ≤ y.cps.toList) : StrL l (l.mergeSort fun x y => decide (x.length ≤ y.length)) := by
  have pm := List.mergeSort_perm l fun x y => decide (x.length ≤ y.length)
  have tr : ∀ a b c : Str, decide (a.length ≤ b.length) = true → decide (b.length ≤ c.length) = true → decide (a.length ≤ c.length) = true := fun a b c h1 h2 => decide_eq_true (Nat.le_trans (of_decide_eq_true h1) (of_decide_eq_true h2))
  have tot : ∀ a b : Str, (decide (a.length ≤ b.length) || decide (b.length ≤ a.length)) = true := fun a b => by
    rcases Nat.le_total a.length b.length with h | h
    · rw [decide_eq_true h]; rfl
    · rw [decide_eq_true h, Bool.or_true]
  have pl := List.pairwise_mergeSort tr tot l
  have nr := pm.nodup_iff.mpr nd
  refine ⟨nr, ?_, fun z => pm.mem_iff⟩
  rw [List.pairwise_iff_forall_sublist]
  intro a b hab
  have h1 : a.length ≤ b.length := of_decide_eq_true (List.pairwise_iff_forall_sublist.mp pl hab)
  rcases Nat.lt_or_ge a.length b.length with h | h
  · exact .inl h
  · have e : a.length = b.length := Nat.le_antisymm h1 h
    refine .inr ⟨e, ?_⟩
    by_cases c : a = b
    · rw [c]; exact List.le_refl _
    · have ma := pm.mem_iff.mp (hab.subset (List.mem_cons_self ..))
      have mb := pm.mem_iff.mp (hab.subset (by simp : b ∈ [a, b]))
      rcases two_of ma mb c with s | s
      · exact List.pairwise_iff_forall_sublist.mp pw s
      · exact (two_not nr hab (List.pair_sublist_mergeSort tr tot (decide_eq_true h) s)).elim
theorem leL_anti {x y : Str} (h1 : leL x y) (h2 : leL y x) : x = y := by
  rcases h1 with a | ⟨a, b⟩ <;> rcases h2 with c | ⟨c, d⟩
  · omega
  · omega
  · omega
  · exact str_ext (List.le_antisymm b d)
theorem StrL.uniq {O l m : List Str} (h : StrL O l) (k : StrL O m) : l = m :=
  ((List.perm_ext_iff_of_nodup h.nd k.nd).mpr fun z => (h.mem z).trans (k.mem z).symm).eq_of_pairwise (fun a b _ _ => leL_anti) h.pw k.pw
theorem StrL.cong {O O' l : List Str} (h : StrL O l) (e : ∀ z, z ∈ O ↔ z ∈ O') : StrL O' l := ⟨h.nd, h.pw, fun z => (h.mem z).trans (e z)⟩
/-! ### a set of texts that grows -/
/-- at D stands a set of just these texts -/
def SetS (w : World) (H0 H : Hp) (D : Addr) (O : List Str) : Prop := ∃ (S : Key → Bool) (n : Nat), H D = some (SetMO w D S n) ∧ (∀ k, S k = true ↔ ∃ z : Str, k = .inr z ∧ z ∈ O) ∧ n ≤ O.length ∧ Same H0 H
theorem SetS.nil {w : World} {H0 : Hp} {D : Addr} (h : H0 D = none) : SetS w H0 (upd H0 D (SetMO w D (fun _ => false) 0)) D [] :=
  ⟨_, 0, upd_same, fun k => ⟨fun z => (by cases z), fun z => (by obtain ⟨_, _, z⟩ := z; cases z)⟩, Nat.le_refl _, same_new h⟩
theorem SetS.put {w : World} {H0 H : Hp} {D : Addr} {O : List Str} (nD : H0 D = none) (h : SetS w H0 H D O) (z : Str) (hl : O.length < 4000) {Q : Hp → Prop} (q : ∀ H', SetS w H0 H' D (O ++ [z]) → Q H') :
    ∃ (k : Key) (S : Key → Bool) (n : Nat), V.str z = kV k ∧ H D = some (SetMO w D S n) ∧ n + 1 < scanBound ∧ Q (upd H D (SetMO w D (fun j => S j || decide (j = k)) (if S k = true then n else n + 1))) := by
  obtain ⟨S, n, hD, hS, hn, sm⟩ := h
  refine ⟨.inr z, S, n, rfl, hD, ?_, q _ ⟨_, _, upd_same, fun k => ?_, ?_, same_mut sm nD⟩⟩
  · have : scanBound = 4096 := rfl
    omega
  · rw [Bool.or_eq_true, hS k, decide_eq_true_eq]
    constructor
    · rintro (⟨y, e, m⟩ | e)
      · exact ⟨y, e, List.mem_append_left _ m⟩
      · exact ⟨z, e, List.mem_append_right _ (List.mem_singleton.mpr rfl)⟩
    · rintro ⟨y, e, m⟩
      rcases List.mem_append.mp m with m | m
      · exact .inl ⟨y, e, m⟩
      · exact .inr (by rw [e, List.mem_singleton.mp m])
  · rw [List.length_append]
    show (if S (.inr z) = true then n else n + 1) ≤ O.length + 1
    split <;> omega
end SH
set_option Elab.async false
set_option linter.all false
set_option maxRecDepth 100000
set_option maxHeartbeats 4000000
/-! shortest single stretches -/
namespace SH
open PySem PySem.Spec PyProof.Rows L2
theorem cutN_tl {z : Str} {a b : Nat} (h1 : a ≤ b) (h2 : b ≤ z.length) : TL.tl (cutN z a b) = ((TL.tl z).drop a).take (b - a) := by
  unfold cutN
  have e : (b : Int) = (a : Int) + ((b - a : Nat) : Int) := by omega
  rw [e]
  exact cut_mid (by omega)
theorem cutN_len {z : Str} {a b : Nat} (h1 : a ≤ b) (h2 : b ≤ z.length) : (cutN z a b).length = b - a := by
  have := congrArg List.length (cutN_tl h1 h2)
  rw [List.length_take, List.length_drop] at this
  have e1 : (TL.tl (cutN z a b)).length = (cutN z a b).length := rfl
  have e2 : (TL.tl z).length = z.length := rfl
  omega
theorem cutN_is {z w : Str} {m k : Nat} (hm : m + 1 + k ≤ z.length) : cutN z m (m + 1 + k) = w ↔ (k + 1 = w.length ∧ standsP w z m = true) := by
  have tl := cutN_tl (z := z) (a := m) (b := m + 1 + k) (by omega) hm
  rw [show m + 1 + k - m = k + 1 by omega] at tl
  constructor
  · intro h
    have hl := cutN_len (z := z) (a := m) (b := m + 1 + k) (by omega) hm
    rw [h] at hl tl
    refine ⟨by omega, decide_eq_true ?_⟩
    rw [hl, show m + 1 + k - m = k + 1 by omega]
    exact tl.symm
  · rintro ⟨h1, h2⟩
    refine str_ext ?_
    show TL.tl (cutN z m (m + 1 + k)) = TL.tl w
    rw [tl, h1]
    exact of_decide_eq_true h2
theorem range_one (n : Nat) : ∀ c : Nat, ((List.range c).filter fun k => decide (k + 1 = n)).length = if 0 < n ∧ n ≤ c then 1 else 0
  | 0 => by
    rw [if_neg (by omega)]
    rfl
  | c + 1 => by
    rw [List.range_succ, List.filter_append, List.length_append, range_one n c]
    by_cases h : c + 1 = n
    · rw [if_neg (by omega), if_pos (by omega), List.filter_cons_of_pos (p := fun k => decide (k + 1 = n)) (decide_eq_true h)]
      rfl
    · rw [List.filter_cons_of_neg (p := fun k => decide (k + 1 = n)) (by simpa using h)]
      by_cases h2 : 0 < n ∧ n ≤ c
      · rw [if_pos h2, if_pos (by omega)]
        rfl
      · rw [if_neg h2, if_neg (by omega)]
        rfl
theorem occA_cnt {z w : Str} {n : Int} {m : Nat} (hm : m < z.length) (hw : 0 < w.length) : ((occA z n m (z.length - m)).filter fun o => decide (o.1 = w)).length = if standsP w z m = true then 1 else 0 := by
  unfold occA
  rw [List.filter_map, List.length_map]
  have e : (List.range (z.length - m)).filter ((fun o : Str × Int => decide (o.1 = w)) ∘ fun k => (cutN z m (m + 1 + k), n)) = (List.range (z.length - m)).filter fun k => decide (k + 1 = w.length ∧ standsP w z m = true) := by
    refine List.filter_congr fun k hk => ?_
    have := List.mem_range.mp hk
    exact decide_eq_decide.mpr (cutN_is (by omega))
  rw [e]
  by_cases s : standsP w z m = true
  · rw [if_pos s]
    have : (List.range (z.length - m)).filter (fun k => decide (k + 1 = w.length ∧ standsP w z m = true)) = (List.range (z.length - m)).filter fun k => decide (k + 1 = w.length) :=
      List.filter_congr fun k _ => decide_eq_decide.mpr ⟨fun h => h.1, fun h => ⟨h, s⟩⟩
    rw [this, range_one, if_pos]
    have := stands_le s (by omega)
    omega
  · rw [if_neg s, List.filter_eq_nil_iff.mpr fun k _ h => s (of_decide_eq_true h).2]
    rfl
theorem occQ_cnt {q : Int × Str} {w : Str} (hw : 0 < w.length) : ∀ m, m ≤ q.2.length → ((occQ q m).filter fun o => decide (o.1 = w)).length = ((List.range m).filter (standsP w q.2)).length
  | 0, _ => rfl
  | m + 1, h => by
    rw [occQ_succ, List.filter_append, List.length_append, occQ_cnt hw m (by omega), occA_cnt (by omega) hw, List.range_succ, List.filter_append, List.length_append]
    congr 1
    by_cases s : standsP w q.2 m = true
    · rw [if_pos s, List.filter_cons_of_pos s]; rfl
    · rw [if_neg s, List.filter_cons_of_neg s]; rfl
/-- as many numbers as places -/
theorem occ_cnt {w : Str} (hw : 0 < w.length) : ∀ h : List (Int × Str), ((occ h).filter fun o => decide (o.1 = w)).length = (plc h w).length
  | [] => rfl
  | q :: r => by
    have e1 : occ (q :: r) = occQ q q.2.length ++ occ r := rfl
    have e2 : plc (q :: r) w = plcOf w q ++ plc r w := rfl
    rw [e1, e2, List.filter_append, List.length_append, List.length_append, occ_cnt hw r, occQ_cnt hw _ (Nat.le_refl _)]
    congr 1
    unfold plcOf
    rw [List.length_map, List.range_succ, List.filter_append, List.length_append]
    have : standsP w q.2 q.2.length = false := by
      cases s : standsP w q.2 q.2.length with
      | false => rfl
      | true =>
        have := stands_le s (Nat.le_refl _)
        omega
    rw [List.filter_cons_of_neg (by rw [this]; decide)]
    rfl
theorem occ_mem {h : List (Int × Str)} {q : Int × Str} (hq : q ∈ h) {a b : Nat} (h1 : a < b) (h2 : b ≤ q.2.length) : cutN q.2 a b ∈ (occ h).map (·.1) := by
  have : ∀ m, a < m → m ≤ q.2.length → (cutN q.2 a b, q.1) ∈ occQ q m := fun m => by
    induction m with
    | zero => intro h; omega
    | succ m ih =>
      intro c1 c2
      rw [occQ_succ]
      rcases Nat.lt_or_ge a m with c | c
      · exact List.mem_append_left _ (ih c (by omega))
      · refine List.mem_append_right _ ?_
        rw [show m = a by omega]
        unfold occA
        exact List.mem_map.mpr ⟨b - a - 1, List.mem_range.mpr (by omega), by rw [show a + 1 + (b - a - 1) = b by omega]⟩
  exact List.mem_map.mpr ⟨_, List.mem_flatMap.mpr ⟨q, hq, this _ (by omega) (Nat.le_refl _)⟩, rfl⟩
/-- a stretch over a letter, that stands once -/
def Sgl (h : List (Int × Str)) (z : Str) (i : Nat) (s m : Nat) : Prop := s ≤ i ∧ i < s + m ∧ s + m ≤ z.length ∧ (plc h (cutN z s (s + m))).length = 1
/-- the least: by size, then by start -/
def LeastS (h : List (Int × Str)) (z : Str) (i : Nat) : Option (Nat × Nat) → Prop
  | none => ∀ s m, ¬ Sgl h z i s m
  | some (s, m) => Sgl h z i s m ∧ ∀ s' m', Sgl h z i s' m' → m < m' ∨ (m = m' ∧ s ≤ s')
theorem leastS_uniq {h : List (Int × Str)} {z : Str} {i : Nat} : ∀ {a b : Option (Nat × Nat)}, LeastS h z i a → LeastS h z i b → a = b
  | none, none, _, _ => rfl
  | none, some (s, m), h1, h2 => absurd h2.1 (h1 s m)
  | some (s, m), none, h1, h2 => absurd h1.1 (h2 s m)
  | some (s, m), some (s', m'), h1, h2 => by
    have a := h1.2 s' m' h2.1
    have b := h2.2 s m h1.1
    have : m = m' ∧ s = s' := by omega
    rw [this.1, this.2]
/-- how it is told -/
def AtS (_ : PySem.W.Frag) (H : Hp) (v : V) : Option (Nat × Nat) → Prop
  | none => v = .non
  | some (s, m) => ∃ t, v = .ref t ∧ H t = some (.tup [.int (s : Int), .int ((s + m : Nat) : Int)])
def dS : Option (Nat × Nat) → PyData
  | none => .none
  | some (s, m) => .tuple [.int (s : Int), .int ((s + m : Nat) : Int)]
theorem AtS.dp {K : PySem.W.Frag} {H : Hp} {v : V} : ∀ {r : Option (Nat × Nat)}, AtS K H v r → Dp K H v (dS r)
  | none, h => by rw [show v = .non from h]; exact .non
  | some (s, m), h => by
    obtain ⟨t, rfl, ht⟩ := h
    exact .tup (.inl (.inl ht)) (.cons (.int _) (.cons (.int _) .nil))
theorem AtS.same {K : PySem.W.Frag} {H H' : Hp} {v : V} (e : Same H H') : ∀ {r : Option (Nat × Nat)}, AtS K H v r → AtS K H' v r
  | none, h => h
  | some (s, m), h => by
    obtain ⟨t, rfl, ht⟩ := h
    exact ⟨t, rfl, e _ _ ht⟩
theorem okd_S : ∀ r : Option (Nat × Nat), Okd (dS r)
  | none => okd_non
  | some (s, m) => ⟨rfl, by show max 0 (max 0 0) + 1 ≤ 60; decide⟩
end SH
set_option Elab.async false
set_option linter.all false
set_option maxRecDepth 100000
set_option maxHeartbeats 4000000
/-! how many texts have how many letters -/
namespace SH
open PySem PySem.Spec PyProof.Rows L2
def cntOf (k : Nat) (p : List Str) : Nat := (p.filter fun z => decide (z.length = k + 1)).length
def cntsTo (m : Nat) (p : List Str) : List Int := (List.range m).map fun k => ((cntOf k p : Nat) : Int)
theorem cntsTo_len (m : Nat) (p : List Str) : (cntsTo m p).length = m := by unfold cntsTo; rw [List.length_map, List.length_range]
theorem cntOf_snoc (k : Nat) (p : List Str) (w : Str) : cntOf k (p ++ [w]) = cntOf k p + (if w.length = k + 1 then 1 else 0) := by
  unfold cntOf
  rw [List.filter_append, List.length_append]
  by_cases c : w.length = k + 1
  · simp [c]
  · simp [c]
theorem cntOf_zero {k : Nat} {p : List Str} (h : ∀ z ∈ p, z.length ≤ k) : cntOf k p = 0 := by
  unfold cntOf
  rw [List.filter_eq_nil_iff.mpr fun z hz hd => by have := h z hz; have := of_decide_eq_true hd; omega]
  rfl
theorem cntsTo_grow {m : Nat} {p : List Str} (h : ∀ z ∈ p, z.length ≤ m) : cntsTo m p ++ [0] = cntsTo (m + 1) p := by
  unfold cntsTo
  rw [List.range_succ, List.map_append]
  show _ = _ ++ [((cntOf m p : Nat) : Int)]
  rw [cntOf_zero h]
  rfl
theorem cntsTo_at (m : Nat) (p : List Str) : atI ((cntsTo (m + 1) p).map V.int) (-1) = some (.int ((cntOf m p : Nat) : Int)) := by
  unfold cntsTo
  rw [List.range_succ, List.map_append, List.map_append]
  exact atI_last _ _
theorem cntsTo_ix (m : Nat) (p : List Str) : ixN ((cntsTo (m + 1) p).map V.int).length (-1) = some m := by
  rw [List.length_map, cntsTo_len]
  unfold ixN
  rw [if_neg (by decide), if_pos (by omega)]
  congr 1
  omega
theorem cntsTo_set {m : Nat} {p : List Str} {w : Str} (h : w.length = m + 1) : ((cntsTo (m + 1) p).map V.int).set m (.int (((cntOf m p : Nat) : Int) + 1)) = (cntsTo (m + 1) (p ++ [w])).map V.int := by
  rw [← List.map_set]
  congr 1
  refine List.ext_getElem? fun k => ?_
  unfold cntsTo
  rw [List.getElem?_set, List.getElem?_map, List.getElem?_map, List.length_map, List.length_range]
  rcases Nat.lt_or_ge k (m + 1) with c | c
  · rw [List.getElem?_range c]
    by_cases e : m = k
    · subst e
      rw [if_pos rfl, if_pos c]
      show some _ = some _
      congr 1
      show _ = ((cntOf m (p ++ [w]) : Nat) : Int)
      rw [cntOf_snoc, if_pos h]
      omega
    · rw [if_neg e]
      show some _ = some _
      congr 1
      show ((cntOf k p : Nat) : Int) = ((cntOf k (p ++ [w]) : Nat) : Int)
      rw [cntOf_snoc, if_neg (by omega)]
      rfl
  · rw [if_neg (by omega), List.getElem?_eq_none (by rw [List.length_range]; exact c)]
    rfl
theorem cntOf_perm {k : Nat} {p q : List Str} (h : p.Perm q) : cntOf k p = cntOf k q := (h.filter _).length_eq
theorem cntsTo_perm {m : Nat} {p q : List Str} (h : p.Perm q) : cntsTo m p = cntsTo m q := by
  unfold cntsTo
  exact List.map_congr_left fun k _ => by rw [cntOf_perm h]
/-- the longest -/
structure MaxL (m : Nat) (p : List Str) : Prop where
  le : ∀ z ∈ p, z.length ≤ m
  has : m = 0 ∨ ∃ z ∈ p, z.length = m
theorem MaxL.uniq {m n : Nat} {p : List Str} (h : MaxL m p) (k : MaxL n p) : m = n := by
  rcases h.has with a | ⟨z, hz, a⟩ <;> rcases k.has with b | ⟨y, hy, b⟩
  · omega
  · have := h.le y hy; omega
  · have := k.le z hz; omega
  · have := h.le y hy
    have := k.le z hz
    omega
theorem MaxL.perm {m : Nat} {p q : List Str} (e : ∀ z, z ∈ p ↔ z ∈ q) (h : MaxL m p) : MaxL m q := ⟨fun z hz => h.le z ((e z).mpr hz), h.has.imp id fun ⟨z, hz, a⟩ => ⟨z, (e z).mp hz, a⟩⟩
theorem occ_isStr {h : List (Int × Str)} {p : List Nat} : p ∈ ((occ h).map (·.1)).map TL.tl ↔ isStr h p := by
  rw [← mem_cutsH]
  have key : ∀ q : Int × Str, p ∈ ((occQ q q.2.length).map (·.1)).map TL.tl ↔ p ∈ cutsZ q.2 := fun q => by
    unfold occQ cutsZ
    rw [List.map_flatMap, List.map_flatMap, List.mem_flatMap, List.mem_flatMap]
    have e : ∀ s ∈ List.range q.2.length, ((occA q.2 q.1 s (q.2.length - s)).map (·.1)).map TL.tl = cuts q.2 s := fun s hs => by
      have hs := List.mem_range.mp hs
      unfold occA cuts
      rw [List.map_map, List.map_map]
      refine List.map_congr_left fun k hk => ?_
      have hk := List.mem_range.mp hk
      show TL.tl (cutN q.2 s (s + 1 + k)) = _
      rw [cutN_tl (by omega) (by omega), show s + 1 + k - s = k + 1 by omega]
    exact ⟨fun ⟨s, hs, hp⟩ => ⟨s, hs, (e s hs) ▸ hp⟩, fun ⟨s, hs, hp⟩ => ⟨s, hs, (e s hs).symm ▸ hp⟩⟩
  unfold occ cutsH
  rw [List.map_flatMap, List.map_flatMap, List.mem_flatMap, List.mem_flatMap]
  exact ⟨fun ⟨q, hq, hp⟩ => ⟨q, hq, (key q).mp hp⟩, fun ⟨q, hq, hp⟩ => ⟨q, hq, (key q).mpr hp⟩⟩
theorem tl_inj {x y : Str} (h : TL.tl x = TL.tl y) : x = y := str_ext h
theorem strN_occ {h : List (Int × Str)} {l : List Str} (nd : l.Nodup) (hm : ∀ z, z ∈ l ↔ z ∈ (occ h).map (·.1)) : l.length = strN h := by
  have := strN_of (h := h) (l := l.map TL.tl) (by rw [List.Nodup, List.pairwise_map]; exact nd.imp fun n e => n (tl_inj e)) fun p => by
    rw [← occ_isStr, List.mem_map, List.mem_map]
    exact ⟨fun ⟨z, hz, e⟩ => ⟨z, (hm z).mp hz, e⟩, fun ⟨z, hz, e⟩ => ⟨z, (hm z).mpr hz, e⟩⟩
  rw [List.length_map] at this
  exact this
/-- letters are left out at the end -/
theorem occ_pos {h : List (Int × Str)} {z : Str} (hm : z ∈ (occ h).map (·.1)) : 0 < z.length := by
  obtain ⟨o, ho, rfl⟩ := List.mem_map.mp hm
  obtain ⟨q, hq, ho⟩ := List.mem_flatMap.mp ho
  obtain ⟨s, hs, ho⟩ := List.mem_flatMap.mp ho
  obtain ⟨k, hk, rfl⟩ := List.mem_map.mp ho
  have hs := List.mem_range.mp hs
  have hk := List.mem_range.mp hk
  show 0 < (cutN q.2 s (s + 1 + k)).length
  have e := cutN_len (z := q.2) (a := s) (b := s + 1 + k) (by omega) (by omega)
  omega
theorem occ_memK {h : List (Int × Str)} {q : Int × Str} (hq : q ∈ h) {s k : Nat} (hk : s + k < q.2.length) : cutN q.2 s (s + 1 + k) ∈ (occ h).map (·.1) :=
  List.mem_map.mpr ⟨(cutN q.2 s (s + 1 + k), q.1), List.mem_flatMap.mpr ⟨q, hq, List.mem_flatMap.mpr ⟨s, List.mem_range.mpr (by omega), List.mem_map.mpr ⟨k, List.mem_range.mpr (by omega), rfl⟩⟩⟩, rfl⟩
theorem occ_less {h : List (Int × Str)} {z : Str} {m : Nat} (hm : z ∈ (occ h).map (·.1)) (hz : z.length = m + 2) : ∃ y ∈ (occ h).map (·.1), y.length = m + 1 := by
  obtain ⟨o, ho, rfl⟩ := List.mem_map.mp hm
  obtain ⟨q, hq, ho⟩ := List.mem_flatMap.mp ho
  obtain ⟨s, hs, ho⟩ := List.mem_flatMap.mp ho
  obtain ⟨k, hk, rfl⟩ := List.mem_map.mp ho
  have hs := List.mem_range.mp hs
  have hk := List.mem_range.mp hk
  have e := cutN_len (z := q.2) (a := s) (b := s + 1 + k) (by omega) (by omega)
  have hz : (cutN q.2 s (s + 1 + k)).length = m + 2 := hz
  refine ⟨_, occ_memK hq (s := s) (k := m) (by omega), ?_⟩
  have := cutN_len (z := q.2) (a := s) (b := s + 1 + m) (by omega) (by omega)
  omega
theorem maxL_next {h : List (Int × Str)} {l : List Str} (hl : StrL ((occ h).map (·.1)) l) {i : Nat} {w : Str} (hw : l[i]? = some w) {m : Nat} (hm : MaxL m (l.take i)) : (m = w.length ∨ m + 1 = w.length) ∧ 0 < w.length ∧ MaxL w.length (l.take i ++ [w]) := by
  have il : i < l.length := (List.getElem?_eq_some_iff.mp hw).1
  have wm : w ∈ l := List.mem_of_getElem? hw
  have split : l = l.take i ++ (w :: l.drop (i + 1)) := by
    have e1 := List.take_append_drop i l
    have e2 : l.drop i = w :: l.drop (i + 1) := by
      rw [List.drop_eq_getElem_cons il]
      congr 1
      exact Option.some.inj ((List.getElem?_eq_getElem il).symm.trans hw)
    rw [e2] at e1
    exact e1.symm
  have pw := hl.pw
  rw [split, List.pairwise_append] at pw
  obtain ⟨_, p2, p3⟩ := pw
  rw [List.pairwise_cons] at p2
  have lel : ∀ {x y : Str}, leL x y → x.length ≤ y.length := fun h => by rcases h with h | ⟨h, _⟩ <;> omega
  have a1 : m ≤ w.length := by
    rcases hm.has with e | ⟨z, hz, e⟩
    · omega
    · have := lel (p3 z hz w (List.mem_cons_self ..))
      omega
  have pos := occ_pos ((hl.mem w).mp wm)
  refine ⟨?_, pos, ⟨fun z hz => ?_, .inr ⟨w, by simp, rfl⟩⟩⟩
  · rcases Nat.lt_or_ge (m + 1) w.length with c | c
    · obtain ⟨y, hy, ey⟩ := occ_less ((hl.mem w).mp wm) (m := w.length - 2) (by omega)
      have ym := (hl.mem y).mpr hy
      rw [split] at ym
      rcases List.mem_append.mp ym with m1 | m1
      · have := hm.le y m1
        omega
      · rcases List.mem_cons.mp m1 with e | m2
        · rw [e] at ey
          omega
        · have := lel (p2.1 y m2)
          omega
    · omega
  · rcases List.mem_append.mp hz with m1 | m1
    · exact lel (p3 z m1 w (List.mem_cons_self ..))
    · rw [List.mem_singleton.mp m1]
      exact Nat.le_refl _
theorem filter_both {α : Type} (f : α → Bool) : ∀ p : List α, p.length = (p.filter f).length + (p.filter fun z => !f z).length
  | [] => rfl
  | x :: r => by
    have ih := filter_both f r
    cases e : f x with
    | true =>
      rw [List.filter_cons_of_pos e, List.filter_cons_of_neg (by rw [e]; decide), List.length_cons, List.length_cons]
      omega
    | false =>
      rw [List.filter_cons_of_neg (by rw [e]; decide), List.filter_cons_of_pos (by rw [e]; rfl), List.length_cons, List.length_cons]
      omega
/-- all of them together -/
theorem cnts_sum : ∀ {p : List Str} {m : Nat}, (∀ z ∈ p, 0 < z.length ∧ z.length ≤ m) → (cntsTo m p).sum = (p.length : Int)
  | p, 0, h => by
    have : p = [] := List.eq_nil_iff_forall_not_mem.mpr fun z hz => by have := h z hz; omega
    subst this
    rfl
  | p, m + 1, h => by
    have e1 : (cntsTo (m + 1) p) = cntsTo m (p.filter fun z => decide (z.length ≤ m)) ++ [((cntOf m p : Nat) : Int)] := by
      unfold cntsTo
      rw [List.range_succ, List.map_append]
      congr 1
      refine List.map_congr_left fun k hk => ?_
      have hk := List.mem_range.mp hk
      show ((cntOf k p : Nat) : Int) = _
      unfold cntOf
      rw [List.filter_filter]
      congr 2
      refine List.filter_congr fun z _ => ?_
      by_cases c : z.length = k + 1
      · rw [decide_eq_true c, decide_eq_true (by omega : z.length ≤ m)]
        rfl
      · rw [decide_eq_false c]
        rfl
    have ih := cnts_sum (p := p.filter fun z => decide (z.length ≤ m)) (m := m) fun z hz => by
      obtain ⟨h1, h2⟩ := List.mem_filter.mp hz
      exact ⟨(h z h1).1, of_decide_eq_true h2⟩
    rw [e1, List.sum_append, ih]
    have : (p.filter fun z => decide (z.length ≤ m)).length + cntOf m p = p.length := by
      have e2 := filter_both (fun z : Str => decide (z.length ≤ m)) p
      have e3 : cntOf m p = (p.filter fun z => !decide (z.length ≤ m)).length := by
        unfold cntOf
        congr 1
        refine List.filter_congr fun z hz => ?_
        have := h z hz
        by_cases c : z.length = m + 1
        · rw [decide_eq_true c, decide_eq_false (by omega)]
          rfl
        · rw [decide_eq_false c, decide_eq_true (by omega)]
          rfl
      omega
    simp only [List.sum_cons, List.sum_nil]
    omega
end SH
set_option Elab.async false
set_option linter.all false
set_option maxRecDepth 100000
set_option maxHeartbeats 4000000
/-! set(a text), len(a set) -/
namespace SH
open PySem PySem.Spec PyProof.Rows L2
section
variable {prog : Program} {w : World} {A : Around} {R : Result → Shared → Prop} {I : Addr} {fp wr : List Addr} {G : Array GenState → Array GenState → Prop} {n : Nat} {P : Nat → Value → Prop} {St : Nat → Shared → Prop}
/-- how many, some of them equal -/
def nDist : List Key → Nat
  | [] => 0
  | k :: r => if r.any (fun j => decide (j = k)) = true then nDist r else nDist r + 1
theorem anyK {k : Key} {r : List Key} : r.any (fun j => decide (j = k)) = true ↔ k ∈ r := by
  rw [List.any_eq_true]
  exact ⟨fun ⟨x, hx, e⟩ => of_decide_eq_true e ▸ hx, fun h => ⟨k, h, decide_eq_true rfl⟩⟩
theorem nDist_le : ∀ l : List Key, nDist l ≤ l.length
  | [] => Nat.le_refl _
  | k :: r => by
    have := nDist_le r
    unfold nDist
    split
    · exact Nat.le_succ_of_le this
    · exact Nat.succ_le_succ this
theorem loopKey (W : WalksS prog w A.in1 I fp wr G n P St) (S : Addr) (hSf : S ∉ fp) (ks : List Key) (hsz : ks.length = n) (hn1 : n + 1 < scanBound)
    (hval : ∀ i v, P i v → ∃ k, ks[i]? = some k ∧ RelV (kV k) v) :
    ∀ (k i : Nat) (s : Shared) (S0 : Key → Bool), n - i = k → i ≤ n → St i s → (∀ j, S0 j = true ↔ j ∈ ks.take i) →
      s.heap.SetOf (mixKind prog w) S S0 (nDist (ks.take i).reverse) →
      (∀ s' S1, Moved (S :: wr) G s s' → (∀ j, S1 j = true ↔ j ∈ ks) → s'.heap.SetOf (mixKind prog w) S S1 (nDist ks.reverse) → R (.ok (.ret .none)) s') →
      codeAny (model prog w) A (.builtin "set.update.loop" ⟨[.ref S, .ref I], []⟩) R s := by
  have hSw : S ∉ wr := fun h => hSf (W.sub _ h)
  have hsub : ∀ b ∈ wr, b ∈ S :: wr := fun b hb => List.mem_cons_of_mem _ hb
  intro k
  induction k with
  | zero =>
    intro i s S0 hk hi hst hS0 hS hR
    have hin : i = n := by omega
    subst hin
    rw [List.take_of_length_le (by omega)] at hS0 hS
    refine codeAny_builtin PyProof.Rows.F.entry_set_update_loop ?_
    rw [Around.under_plainId PyProof.Rows.F.plain_set_update_loop _]
    show wpAny _ A.in1 (pyNext (.ref I) >>= _) _ _ s
    refine wpAny_bind (W.done s _ _ hst fun s' hm => ?_)
    show wpAny _ A.in1 (ret Value.none) _ _ s'
    exact wpAny_pure (hR s' S0 (hm.mono hsub) hS0 (by
      obtain ⟨o, es, ep, t, ho, rest⟩ := hS
      exact ⟨o, es, ep, t, hm.heap S _ hSw ho, rest⟩))
  | succ k ih =>
    intro i s S0 hk hi hst hS0 hS hR
    have hlt : i < n := by omega
    refine codeAny_builtin PyProof.Rows.F.entry_set_update_loop ?_
    rw [Around.under_plainId PyProof.Rows.F.plain_set_update_loop _]
    show wpAny _ A.in1 (pyNext (.ref I) >>= _) _ _ s
    refine wpAny_bind (W.item i s _ _ hlt hst fun v s' hP hst' hm => ?_)
    obtain ⟨kk, hkk, rk⟩ := hval i v hP
    have hS' : s'.heap.SetOf (mixKind prog w) S S0 (nDist (ks.take i).reverse) := by
      obtain ⟨o, es, ep, tb, ho, rest⟩ := hS
      exact ⟨o, es, ep, tb, hm.heap S _ hSw ho, rest⟩
    show wpAny _ A.in1 (holding [v] (setAdd S v) >>= _) _ _ s'
    refine wpAny_bind (wpAny_holding ?_)
    unfold setAdd
    refine wpAny_holding ?_
    refine wpAny_bind ((mixKind prog w).pyHash (k := kk) (kV_is rk) ?_)
    have tk : ks.take (i + 1) = ks.take i ++ [kk] := by rw [List.take_add_one, hkk]; rfl
    have nd : nDist (ks.take (i + 1)).reverse = if S0 kk = true then nDist (ks.take i).reverse else nDist (ks.take i).reverse + 1 := by
      rw [tk, List.reverse_append]
      show (if (ks.take i).reverse.any (fun j => decide (j = kk)) = true then nDist (ks.take i).reverse else nDist (ks.take i).reverse + 1) = _
      by_cases c : S0 kk = true
      · rw [if_pos c, if_pos (anyK.mpr (List.mem_reverse.mpr ((hS0 kk).mp c)))]
      · rw [if_neg c, if_neg fun z => c ((hS0 kk).mpr (List.mem_reverse.mp (anyK.mp z)))]
    refine wpAny_setAddHashed_of (knd := mixKind prog w) (s := { s' with toks := s'.toks + 1 }) (kV_is rk) (key_scan rk) hS' ?_ fun h' hsb hS2 => ?_
    · have h1 := nDist_le (ks.take i).reverse
      rw [List.length_reverse, List.length_take] at h1
      omega
    refine wpAny_pure ⟨plainId_quiet PyProof.Rows.F.plain_set_update_loop _, ih (i + 1) _ (fun j => S0 j || decide (j = kk)) (by omega) hlt (W.frame _ s' _ _ hst' (Nat.le_succ _) fun b hb o e => ?_) (fun j => ?_) ?_ fun s'' S1 hm'' h1 hS'' => ?_⟩
    · rw [hsb.2 b (fun h : b = S => hSf (by rw [← h]; exact hb))]; exact e
    · rw [tk, Bool.or_eq_true, hS0 j, decide_eq_true_eq, List.mem_append, List.mem_singleton]
    · rw [nd]
      exact hS2
    · refine hR s'' S1 (Moved.trans W.gtrans ((hm.mono hsub).then_heap (Nat.le_succ _) fun b o hb e => ?_) hm'') h1 hS''
      rw [hsb.2 b (fun h : b = S => hb (by rw [h]; exact List.mem_cons_self))]; exact e
end
def signs (z : Str) : List Key := z.cps.toList.map fun c => .inr ⟨#[c]⟩
section
variable {prog : Program} {w : World} {A : Around} {E : Value → Shared → Prop} {s : Shared}
set_option maxHeartbeats 3200000 in
theorem call_set_str {z : Str} {t : Tok} {Q : Value → Shared → Prop}
    (hh : A.handled = none) (hn1 : z.cps.size + 1 < scanBound)
    (h : ∀ (h' : Heap) (tk : Nat) (S1 : Key → Bool), (∀ j, S1 j = true ↔ j ∈ signs z) → h'.SetOf (mixKind prog w) s.heap.objs.size S1 (nDist (signs z).reverse) →
      (∀ b o, b < s.heap.objs.size → s.heap.get? b = some o → h'.get? b = some o) → Q (.ref s.heap.objs.size) { s with heap := h', toks := tk }) :
    wpAny (model prog w) A (call (.type "set") [.str z t]) Q E s := by
  obtain ⟨c, tl, hmro⟩ := PySem.F.called_set.mro
  have hmade := PySem.F.called_set.made
  have hsub := PySem.F.called_set.sub
  refine wpAny_call (codeAny_of_tree ?_)
  show wpAny _ _ (callAny (.type "set") _) _ _ _
  refine wpAny_pure ⟨Code.quiet_builtin _ (by decide +kernel), codeAny_builtin PySem.F.entry_type_call ?_⟩
  rw [Around.under_plain (weight_type_call_type "set" [.str z t] []) rfl]
  have h1 := PySem.F.called_set.notType
  have h2 := PySem.F.called_set.canCreate
  have hct := PySem.F.typeCall_set_1 (.str z t)
  repeat (any_goals (first | assumption | wp_step))
  refine codeAny_mono (code_set_new_1 (.str z t) (E := E) (Q₁ := fun obj s₁ => ∃ led : Bool, obj = .ref s.heap.objs.size ∧ s₁ = { s with heap := s.heap.push { cls := .type "set", dict := none, data := .set #[] 0 (.fresh 0 0 led) } }) fun led => ⟨led, rfl, rfl⟩) fun r s₁ hr => ?_
  cases r with
  | error e => exact hr
  | ok fl =>
    cases fl with
    | ret obj =>
      obtain ⟨led, rfl, rfl⟩ := hr
      have hS : (s.heap.push { cls := .type "set", dict := none, data := .set #[] 0 (.fresh 0 0 led) }).get? s.heap.objs.size = some { cls := .type "set", dict := none, data := .set #[] 0 (.fresh 0 0 led) } := Heap.get?_push_size _ rfl
      have hT : Shared.TypeIs { s with heap := s.heap.push { cls := .type "set", dict := none, data := .set #[] 0 (.fresh 0 0 led) } } (.ref s.heap.objs.size) "set" := ⟨_, hS, rfl⟩
      have hli := PySem.F.called_set.init.lookup
      have hbi := PySem.F.called_set.init.bind (.ref s.heap.objs.size)
      repeat (any_goals (first | assumption | wp_step))
      refine codeAny_mono (codeAny_call_builtin (R := wants (fun r s₂ => r = .none ∧ ∃ h' tk S1, s₂ = { s with heap := h', toks := tk } ∧ (∀ j, S1 j = true ↔ j ∈ signs z) ∧
          h'.SetOf (mixKind prog w) s.heap.objs.size S1 (nDist (signs z).reverse) ∧
          (∀ b o, b < s.heap.objs.size → s.heap.get? b = some o → h'.get? b = some o)) E) PySem.F.called_set.init.plain PySem.F.entry_set_init (check_set_init_1 hT ?_)) fun r₂ s₂ hr₂ => ?_
      · have hTs : Shared.TypeIs { s with heap := s.heap.push { cls := .type "set", dict := none, data := .set #[] 0 (.fresh 0 0 led) } } (.str z t) "str" := rfl
        have hsls : isSubtype (Value.type "str") (Value.type "set") = pure false := by rw [isSubtype_type]; kernel_rfl
        have hslf : isSubtype (Value.type "str") (Value.type "frozenset") = pure false := by rw [isSubtype_type]; kernel_rfl
        have hne : (Value.type "str" == Value.type "dict") = false := by decide
        unfold Builtin.«set.__init__» noKeywords Builtin.Frozenset.updateFrom
        generalize hPI : pyIter = PI
        wp_walk
        subst hPI
        refine wpAny_pyIter_str fun o St W st0 => ?_
        refine wpAny_bind (wpAny_runValue ?_)
        have hh3 : A.in1.in1.in1.handled = none := by simp [hh]
        have hSf : s.heap.objs.size ∉ [(s.heap.push { cls := .type "set", dict := none, data := .set #[] 0 (.fresh 0 0 led) }).objs.size] := by
          rw [Heap.size_push]; simp only [List.mem_singleton]
          exact Nat.ne_of_lt (Nat.lt_succ_self _)
        have hsz : (signs z).length = z.cps.size := by unfold signs; rw [List.length_map, Array.length_toList]
        refine loopKey ((W _ hh3).toS) s.heap.objs.size hSf (signs z) hsz hn1 (fun i v hv => ?_) (z.cps.size - 0) 0 _ (fun _ => false) (by omega) (Nat.zero_le _) st0 (fun j => by simp) ?hS0 fun s' S1 hm hS1 hS' => ?_
        · obtain ⟨c, u, hc, rfl⟩ := hv
          refine ⟨.inr ⟨#[c]⟩, ?_, u, rfl⟩
          unfold signs
          rw [List.getElem?_map, Array.getElem?_toList, hc]
          rfl
        case hS0 =>
          have hget : ((s.heap.push { cls := .type "set", dict := none, data := .set #[] 0 (.fresh 0 0 led) }).push o).get? s.heap.objs.size
              = some { cls := .type "set", dict := none, data := .set #[] 0 (.fresh 0 0 led) } := Heap.get?_push_of_some _ hS
          exact ⟨_, #[], 0, _, hget, ⟨rfl, rfl, rfl⟩, rfl, (fun e he => by simp at he), (fun k => by simp), (by decide), (by rfl), rfl⟩
        · obtain ⟨h', g', d', tk', os'⟩ := s'
          have eg : g' = s.gens := hm.gens
          have ed : d' = s.drawn := hm.drawn
          have eo : os' = s.os := hm.os
          subst eg; subst ed; subst eo
          show wpAny _ _ _ _ _ _
          refine wpAny_pure ?_
          show wpAny _ _ (ret Value.none) _ _ _
          refine wpAny_pure ⟨rfl, h', tk', S1, rfl, hS1, hS', fun b o' hb e => ?_⟩
          have hb1 : b ≠ s.heap.objs.size := Nat.ne_of_lt hb
          have hb2 : b ≠ (s.heap.push { cls := .type "set", dict := none, data := .set #[] 0 (.fresh 0 0 led) }).objs.size := by
            rw [Heap.size_push]; exact Nat.ne_of_lt (Nat.lt_succ_of_lt hb)
          exact hm.heap b o' (by simp only [List.mem_cons, List.mem_singleton, List.not_mem_nil, or_false, not_or]; exact ⟨hb1, hb2⟩) (Heap.get?_push_of_some _ (Heap.get?_push_of_some _ e))
      · cases r₂ with
        | error e => exact hr₂
        | ok fl₂ =>
          cases fl₂ with
          | ret r =>
            obtain ⟨rfl, h', tk, S1, rfl, hS1, hS', hk'⟩ := hr₂
            repeat (any_goals (first | assumption | wp_step))
            exact h _ _ S1 hS1 hS' hk'
          | _ => exact hr₂.elim
    | _ => exact hr.elim
end
section
variable {X : Cx}
/-- set(a text) -/
def rSetTxt (P : Program) (w : World) : List V → Hp → VK → Prop := fun vs H Q => ∃ z : Str, vs = [.str z] ∧ z.length < 4000 ∧
  ∀ (p : Addr) (S1 : Key → Bool), H p = none → (∀ j, S1 j = true ↔ j ∈ signs z) → Q (.ref p) (upd H p (SetK P w p S1 (nDist (signs z).reverse)))
theorem call_setTxt (hc : X.calm = true) : CallR X (.type "set") (rSetTxt X.prog X.w) := by
  intro pins s τ H vs us Q I r h
  obtain ⟨z, rfl, hz, q⟩ := h
  obtain ⟨u, rfl, t, rfl⟩ := vals1 r
  refine call_set_str (I.ok.hd hc) (by have : scanBound = 4096 := rfl; have : z.cps.size = z.length := rfl; omega) fun h' tk S1 hS1 hS k => ?_
  have new : H s.heap.objs.size = none := I.hok.fresh (Nat.le_refl _)
  exact ⟨.ref _, upd H s.heap.objs.size (SetK X.prog X.w s.heap.objs.size S1 (nDist (signs z).reverse)), I.laid (t' := tk) (fun b o e => k b o (Heap.lt_size e) e) (Nat.le_refl _) (setK_new hS), rfl, q _ S1 new hS1⟩
/-- len(a set) -/
def rLenSet (P : Program) (w : World) : List V → Hp → VK → Prop := fun vs H Q => ∃ (a : Addr) (S : Key → Bool) (n : Nat), vs = [.ref a] ∧ (H a = some (SetK P w a S n) ∨ H a = some (SetMO w a S n)) ∧ Q (.int n) H
theorem call_lenSet : CallR X (.builtin "len") (rLenSet X.prog X.w) := by
  intro pins s τ H vs us Q I r h
  obtain ⟨a, S, n, rfl, ha, q⟩ := h
  obtain ⟨u, rfl, ru⟩ := vals1 r
  obtain rfl : u = Value.ref a := ru
  have hS : s.heap.SetOf (mixKind X.prog X.w) a S n := ha.elim (fun ha => setK_get I ha) fun ha => (setMO_get I ha).setOf
  obtain ⟨o, es, ep, t, ho, hex, hd, hel, hmem, hb, hf, hn⟩ := hS
  have hb' : es.size < 4096 := hb
  subst hn
  exact call_len_set ho hex hd hf (by omega) ⟨.int _, H, I.tok _, ⟨_, rfl⟩, q⟩
theorem call_setTxtK {P : Program} {w : World} (hc : X.calm = true) (hp : X.prog = P := by rfl) (hw : X.w = w := by rfl) : CallR X (.type "set") (rSetTxt P w) := hp ▸ hw ▸ call_setTxt hc
theorem call_lenSetK {P : Program} {w : World} (hp : X.prog = P := by rfl) (hw : X.w = w := by rfl) : CallR X (.builtin "len") (rLenSet P w) := hp ▸ hw ▸ call_lenSet
theorem nDist_full : ∀ l : List Key, nDist l = l.length ↔ l.Nodup
  | [] => by simp [nDist]
  | k :: r => by
    have h1 := nDist_le r
    have ih := nDist_full r
    show (if r.any (fun j => decide (j = k)) = true then nDist r else nDist r + 1) = r.length + 1 ↔ _
    rw [List.nodup_cons]
    by_cases c : r.any (fun j => decide (j = k)) = true
    · rw [if_pos c]
      exact ⟨fun h => by omega, fun h => absurd (anyK.mp c) h.1⟩
    · rw [if_neg c]
      exact ⟨fun h => ⟨fun m => c (anyK.mpr m), ih.mp (by omega)⟩, fun h => by rw [ih.mpr h.2]⟩
end
end SH
set_option Elab.async false
set_option linter.all false
set_option maxRecDepth 100000
set_option maxHeartbeats 4000000
/-! a dict of words, each with a list of things -/
namespace SH
open PySem PySem.Spec PyProof.Rows L2
abbrev VT := List (Str × Addr × List V)
def vkvs (T : VT) : List (Key × V) := T.map fun e => ((Sum.inr e.1 : Key), V.ref e.2.1)
/-- what has been met: words and numbers, in order -/
abbrev VOcc := List (Str × V)
structure Vd (H0 H : Hp) (D : Addr) (T : VT) : Prop where
  at_ : H D = some (.dK (vkvs T))
  sm : Same H0 H
  nD : H0 D = none
  kd : (T.map (·.1)).Nodup
  rd : (T.map (·.2.1)).Nodup
  row : ∀ e ∈ T, H e.2.1 = some (.lst e.2.2) ∧ H0 e.2.1 = none
/-- it tells what has been met -/
structure VdOf (T : VT) (O : VOcc) : Prop where
  mem : ∀ z, z ∈ T.map (·.1) ↔ z ∈ O.map (·.1)
  val : ∀ e ∈ T, e.2.2 = (O.filter fun o => decide (o.1 = e.1)).map (·.2)
theorem vkvs_keys (T : VT) : (vkvs T).map (·.1) = (T.map (·.1)).map fun z => (Sum.inr z : Key) := by
  unfold vkvs
  rw [List.map_map, List.map_map]
  rfl
theorem Vd.val_of {H0 H : Hp} {D : Addr} {T : VT} (h : Vd H0 H D T) {e : Str × Addr × List V} (he : e ∈ T) : valV (vkvs T) (.inr e.1) = some (.ref e.2.1) := by
  have kd := h.kd
  unfold vkvs
  clear h
  induction T with
  | nil => cases he
  | cons a r ih =>
    rw [List.map_cons] at kd ⊢
    rw [List.nodup_cons] at kd
    unfold valV
    rcases List.mem_cons.mp he with e1 | m
    · subst e1
      rw [List.find?_cons_of_pos (by simp)]
      rfl
    · have ne : ¬ a.1 = e.1 := fun z => kd.1 (by rw [z]; exact List.mem_map_of_mem m)
      rw [List.find?_cons_of_neg (by simpa using ne)]
      exact ih m kd.2
theorem vkvs_none {T : VT} {z : Str} (h : z ∉ T.map (·.1)) : valV (vkvs T) (.inr z) = none := by
  unfold valV
  rw [List.find?_eq_none.mpr fun x hx => ?_]
  · rfl
  · unfold vkvs at hx
    obtain ⟨e, he, rfl⟩ := List.mem_map.mp hx
    have : ¬ e.1 = z := fun y => h (y ▸ List.mem_map_of_mem he)
    simpa using this
theorem vkvs_put {T : VT} {z : Str} {r : Addr} (h : z ∉ T.map (·.1)) : putK (vkvs T) (.inr z) (.ref r) = vkvs (T ++ [(z, r, [])]) := by
  unfold putK
  rw [if_neg, show vkvs (T ++ [(z, r, [])]) = vkvs T ++ [((Sum.inr z : Key), V.ref r)] by unfold vkvs; rw [List.map_append]; rfl]
  intro y
  obtain ⟨x, hx, e⟩ := List.any_eq_true.mp y
  unfold vkvs at hx
  obtain ⟨e2, he, rfl⟩ := List.mem_map.mp hx
  have := of_decide_eq_true e
  exact h ((Sum.inr.inj this) ▸ List.mem_map_of_mem he)
def vbump (T : VT) (z : Str) (n : V) : VT := T.map fun x => if x.1 = z then (x.1, x.2.1, x.2.2 ++ [n]) else x
theorem vbump_keys (T : VT) (z : Str) (n : V) : (vbump T z n).map (·.1) = T.map (·.1) := by
  unfold vbump
  rw [List.map_map]
  refine List.map_congr_left fun x _ => ?_
  show (if x.1 = z then (x.1, x.2.1, x.2.2 ++ [n]) else x).1 = x.1
  split <;> rfl
theorem vbump_refs (T : VT) (z : Str) (n : V) : (vbump T z n).map (·.2.1) = T.map (·.2.1) := by
  unfold vbump
  rw [List.map_map]
  refine List.map_congr_left fun x _ => ?_
  show (if x.1 = z then (x.1, x.2.1, x.2.2 ++ [n]) else x).2.1 = x.2.1
  split <;> rfl
theorem vbump_kvs (T : VT) (z : Str) (n : V) : vkvs (vbump T z n) = vkvs T := by
  unfold vbump vkvs
  rw [List.map_map]
  refine List.map_congr_left fun x _ => ?_
  show ((Sum.inr (if x.1 = z then (x.1, x.2.1, x.2.2 ++ [n]) else x).1 : Key), V.ref (if x.1 = z then (x.1, x.2.1, x.2.2 ++ [n]) else x).2.1) = _
  split <;> rfl
theorem Vd.rne {H0 H : Hp} {D : Addr} {T : VT} (h : Vd H0 H D T) {e : Str × Addr × List V} (he : e ∈ T) : e.2.1 ≠ D := fun z => by
  have := (h.row e he).1
  rw [z, h.at_] at this
  cases this
theorem vnodup_key {T : VT} (h : (T.map (·.1)).Nodup) {e f : Str × Addr × List V} (he : e ∈ T) (hf : f ∈ T) (k : e.1 = f.1) : e = f := by
  induction T with
  | nil => cases he
  | cons a r ih =>
    rw [List.map_cons, List.nodup_cons] at h
    rcases List.mem_cons.mp he with e1 | m1 <;> rcases List.mem_cons.mp hf with e2 | m2
    · rw [e1, e2]
    · exact (h.1 (by rw [← e1, k]; exact List.mem_map_of_mem (f := fun x : Str × Addr × List V => x.1) m2)).elim
    · exact (h.1 (by rw [← e2, ← k]; exact List.mem_map_of_mem (f := fun x : Str × Addr × List V => x.1) m1)).elim
    · exact ih h.2 m1 m2
theorem vnodup_ref {T : VT} (h : (T.map (·.2.1)).Nodup) {e f : Str × Addr × List V} (he : e ∈ T) (hf : f ∈ T) (k : e.2.1 = f.2.1) : e = f := by
  induction T with
  | nil => cases he
  | cons a r ih =>
    rw [List.map_cons, List.nodup_cons] at h
    rcases List.mem_cons.mp he with e1 | m1 <;> rcases List.mem_cons.mp hf with e2 | m2
    · rw [e1, e2]
    · exact (h.1 (by rw [← e1, k]; exact List.mem_map_of_mem (f := fun x : Str × Addr × List V => x.2.1) m2)).elim
    · exact (h.1 (by rw [← e2, ← k]; exact List.mem_map_of_mem (f := fun x : Str × Addr × List V => x.2.1) m1)).elim
    · exact ih h.2 m1 m2
/-- a word more -/
theorem Vd.new {H0 H : Hp} {D : Addr} {T : VT} (h : Vd H0 H D T) {z : Str} (hz : z ∉ T.map (·.1)) {r : Addr} (nr : H r = none) : Vd H0 (upd (upd H r (.lst [])) D (.dK (vkvs (T ++ [(z, r, [])])))) D (T ++ [(z, r, [])]) := by
  have rD : r ≠ D := fun e => by rw [e, h.at_] at nr; cases nr
  refine ⟨upd_same, same_mut (h.sm.trans (same_new nr)) h.nD, h.nD, ?_, ?_, fun e m => ?_⟩
  · rw [List.map_append, List.nodup_append]
    exact ⟨h.kd, by simp, fun a ha b hb e => by rw [List.mem_singleton.mp hb] at e; exact hz (by rw [← show a = z from e]; exact ha)⟩
  · rw [List.map_append, List.nodup_append]
    refine ⟨h.rd, by simp, fun a ha b hb e => ?_⟩
    rw [List.mem_singleton.mp hb] at e
    obtain ⟨x, hx, rfl⟩ := List.mem_map.mp ha
    have := (h.row x hx).1
    rw [show x.2.1 = r from e, nr] at this
    cases this
  · rcases List.mem_append.mp m with m | m
    · rw [upd_ne (h.rne m)]
      exact ⟨same_new nr _ _ (h.row e m).1, (h.row e m).2⟩
    · rw [List.mem_singleton.mp m]
      exact ⟨by rw [upd_ne rD]; exact upd_same, h.sm.free nr⟩
/-- a number more behind a word -/
theorem Vd.app {H0 H : Hp} {D : Addr} {T : VT} (h : Vd H0 H D T) {e : Str × Addr × List V} (he : e ∈ T) (n : V) : Vd H0 (upd H e.2.1 (.lst (e.2.2 ++ [n]))) D (vbump T e.1 n) := by
  refine ⟨?_, same_mut h.sm (h.row e he).2, h.nD, by rw [vbump_keys]; exact h.kd, by rw [vbump_refs]; exact h.rd, fun x hx => ?_⟩
  · rw [upd_ne (fun z => h.rne he z.symm), vbump_kvs]
    exact h.at_
  · unfold vbump at hx
    obtain ⟨y, hy, rfl⟩ := List.mem_map.mp hx
    by_cases c : y.1 = e.1
    · have := vnodup_key h.kd hy he c
      subst this
      rw [if_pos rfl]
      exact ⟨upd_same, (h.row y hy).2⟩
    · rw [if_neg c]
      rw [upd_ne (fun z => c (congrArg (·.1) (vnodup_ref h.rd hy he z)))]
      exact h.row y hy
theorem VdOf.vbump {T : VT} {O : VOcc} {z : Str} {n : V} (hs : ∀ y, y ∈ T.map (·.1) ↔ y ∈ O.map (·.1) ∨ y = z) (hv : ∀ e ∈ T, e.2.2 = (O.filter fun o => decide (o.1 = e.1)).map (·.2)) : VdOf (SH.vbump T z n) (O ++ [(z, n)]) := by
  refine ⟨fun y => ?_, fun e he => ?_⟩
  · rw [vbump_keys, hs y, List.map_append, List.mem_append]
    exact or_congr Iff.rfl List.mem_singleton.symm
  · unfold SH.vbump at he
    obtain ⟨x, hx, rfl⟩ := List.mem_map.mp he
    rw [List.filter_append, List.map_append]
    by_cases c : x.1 = z
    · rw [if_pos c]
      show x.2.2 ++ [n] = (O.filter fun o => decide (o.1 = x.1)).map (·.2) ++ ([((z, n) : Str × V)].filter fun o => decide (o.1 = x.1)).map (·.2)
      rw [← hv x hx, List.filter_cons_of_pos (p := fun o : Str × V => decide (o.1 = x.1)) (decide_eq_true (show z = x.1 from c.symm))]
      rfl
    · rw [if_neg c]
      show x.2.2 = (O.filter fun o => decide (o.1 = x.1)).map (·.2) ++ ([((z, n) : Str × V)].filter fun o => decide (o.1 = x.1)).map (·.2)
      rw [← hv x hx, List.filter_cons_of_neg (p := fun o : Str × V => decide (o.1 = x.1)) (by simpa using fun y : z = x.1 => c y.symm)]
      exact (List.append_nil _).symm
theorem Vd.same {H0 H H' : Hp} {D : Addr} {T : VT} (s : Same H H') (h : Vd H0 H D T) : Vd H0 H' D T := ⟨s _ _ h.at_, h.sm.trans s, h.nD, h.kd, h.rd, fun e m => ⟨s _ _ (h.row e m).1, (h.row e m).2⟩⟩
end SH
set_option Elab.async false
set_option linter.all false
set_option maxRecDepth 100000
set_option maxHeartbeats 4000000
/-! the least words that are missing -/
namespace SH
open PySem PySem.Spec PyProof.Rows L2
theorem StrL.of {O : List Str} {l : List Str} (nd : l.Nodup) (pw : l.Pairwise leL) (m : ∀ z, z ∈ l ↔ z ∈ O) : StrL O l := ⟨nd, pw, m⟩
/-! ### pairs of a size and a text, sorted -/
def eLen (z : Str) : PyData := .tuple [.int z.length, .str z]
theorem eLen_lt (x y : Str) : PySem.W.dataLt (eLen x) (eLen y) = decide (x.length < y.length ∨ (x.length = y.length ∧ x.cps.toList < y.cps.toList)) := by
  unfold eLen
  rw [PySem.W.dataLt_tuple, PySem.W.dataLt_cons (by simp [PySem.W.alike]), PySem.W.dataLt_cons (by simp [PySem.W.alike])]
  have e : PyProof.Rows.lexLt itemOrd (PySem.W.keyToksAll []) (PySem.W.keyToksAll []) = false := lex_irrefl _
  rw [e, eqv_int, eqv_str, PySem.W.dataLt_int, PySem.W.dataLt_str]
  by_cases a : x.length = y.length
  · have a2 : (x.length : Int) = (y.length : Int) := by omega
    by_cases b : x = y
    · rw [decide_eq_true a2, decide_eq_true b]
      symm
      refine decide_eq_false ?_
      rintro (h | ⟨_, h⟩)
      · omega
      · rw [b] at h
        exact List.lt_irrefl _ h
    · rw [decide_eq_true a2, decide_eq_false b]
      show decide (x.cps.toList < y.cps.toList) = _
      exact decide_eq_decide.mpr ⟨fun h => .inr ⟨a, h⟩, fun h => h.elim (fun h => by omega) fun h => h.2⟩
  · have a2 : ¬ (x.length : Int) = (y.length : Int) := by omega
    rw [decide_eq_false a2]
    show decide ((x.length : Int) < (y.length : Int)) = _
    exact decide_eq_decide.mpr ⟨fun h => .inl (by omega), fun h => h.elim (fun h => by omega) fun h => absurd h.1 a⟩
theorem eLen_le : ∀ {x y : Str}, PySem.W.dataLe false eLen x y = true → leL x y := fun {x y} h => by
  have h : (!PySem.W.dataLt (eLen y) (eLen x)) = true := h
  rw [eLen_lt] at h
  have h : ¬ (y.length < x.length ∨ (y.length = x.length ∧ y.cps.toList < x.cps.toList)) := fun z => by rw [decide_eq_true z] at h; cases h
  rcases Nat.lt_trichotomy x.length y.length with c | c | c
  · exact .inl c
  · exact .inr ⟨c, List.not_lt.mp fun z => h (.inr ⟨c.symm, z⟩)⟩
  · exact absurd (.inl c) h
theorem leL_le {x y : Str} (h : leL x y) : PySem.W.dataLe false eLen x y = true := by
  show (!PySem.W.dataLt (eLen y) (eLen x)) = true
  rw [eLen_lt, decide_eq_false]
  · rfl
  · rintro (a | ⟨a, b⟩) <;> rcases h with c | ⟨c, d⟩
    · omega
    · omega
    · omega
    · exact absurd b (List.not_lt.mpr d)
theorem leL_tr {x y z : Str} (h : leL x y) (k : leL y z) : leL x z := by
  rcases h with a | ⟨a, b⟩ <;> rcases k with c | ⟨c, d⟩
  · exact .inl (by omega)
  · exact .inl (by omega)
  · exact .inl (by omega)
  · exact .inr ⟨a.trans c, List.le_trans b d⟩
theorem leL_tot (x y : Str) : leL x y ∨ leL y x := by
  rcases Nat.lt_trichotomy x.length y.length with c | c | c
  · exact .inl (.inl c)
  · rcases List.le_total x.cps.toList y.cps.toList with d | d
    · exact .inl (.inr ⟨c, d⟩)
    · exact .inr (.inr ⟨c.symm, d⟩)
  · exact .inr (.inl c)
theorem eLen_sort (l : List Str) : (l.mergeSort (PySem.W.dataLe false eLen)).Pairwise leL := by
  refine (List.pairwise_mergeSort (le := PySem.W.dataLe false eLen) (fun x y z a b => leL_le (leL_tr (eLen_le a) (eLen_le b))) (fun x y => ?_) l).imp eLen_le
  rcases leL_tot x y with h | h
  · rw [leL_le h]; rfl
  · rw [leL_le h, Bool.or_true]
theorem str_sort (l : List Str) : (l.mergeSort (PySem.W.dataLe false PyData.str)).Pairwise (fun x y => x.cps.toList ≤ y.cps.toList) := by
  have e : PySem.W.dataLe false PyData.str = fun x y : Str => !decide (y.cps.toList < x.cps.toList) := by
    funext x y
    show (!PySem.W.dataLt (.str y) (.str x)) = _
    rw [PySem.W.dataLt_str]
  rw [e]
  refine (List.pairwise_mergeSort (le := fun x y : Str => !decide (y.cps.toList < x.cps.toList)) (fun x y z a b => ?_) (fun x y => ?_) l).imp fun {x y} a => List.not_lt.mp fun z => by rw [decide_eq_true z] at a; cases a
  · have a' : x.cps.toList ≤ y.cps.toList := List.not_lt.mp fun z => by rw [decide_eq_true z] at a; cases a
    have b' : y.cps.toList ≤ z.cps.toList := List.not_lt.mp fun z => by rw [decide_eq_true z] at b; cases b
    rw [decide_eq_false (List.not_lt.mpr (List.le_trans a' b'))]
    rfl
  · rcases List.le_total x.cps.toList y.cps.toList with a | a
    · rw [decide_eq_false (List.not_lt.mpr a)]
      rfl
    · rw [decide_eq_false (List.not_lt.mpr a), Bool.not_false, Bool.or_true]
/-! ### first and last letters left out -/
def dl (z : Str) : Str := cutS z none (some (-1))
def rst (z : Str) : Str := cutS z (some 1) none
def sg (c : Nat) : Str := ⟨#[c]⟩
theorem sg_tl (c : Nat) : TL.tl (sg c) = [c] := rfl
theorem rst_tl (z : Str) : TL.tl (rst z) = (TL.tl z).drop 1 := by
  have := suf_tl z 1
  exact this
theorem dl_tl (z : Str) : TL.tl (dl z) = (TL.tl z).dropLast := by
  unfold dl cutS
  show ((TL.tl z).drop (HT.sIx z.length 0 none)).take (HT.sIx z.length z.length (some (-1)) - HT.sIx z.length 0 none) = _
  have e0 : HT.sIx z.length 0 none = 0 := rfl
  have e1 : HT.sIx z.length z.length (some (-1)) = z.length - 1 := by
    unfold HT.sIx
    simp
    omega
  rw [e0, e1, List.drop_zero, List.dropLast_eq_take]
  rfl
theorem app_tl (x y : Str) : TL.tl (x ++ y) = TL.tl x ++ TL.tl y := TL.tl_append x y
theorem dl_app (z : Str) (c : Nat) : dl (z ++ sg c) = z := tl_inj (by rw [dl_tl, app_tl, sg_tl, List.dropLast_concat])
theorem rst_app {z : Str} (c : Nat) (h : 0 < z.length) : rst (z ++ sg c) = rst z ++ sg c := tl_inj (by
  rw [rst_tl, app_tl, app_tl, rst_tl, List.drop_append_of_le_length (show 1 ≤ (TL.tl z).length from h)])
theorem app_sg_inj {x y : Str} {c d : Nat} (h : x ++ sg c = y ++ sg d) : x = y ∧ c = d := by
  have e := congrArg TL.tl h
  rw [app_tl, app_tl, sg_tl, sg_tl] at e
  obtain ⟨e1, e2⟩ := List.append_inj' e rfl
  exact ⟨tl_inj e1, by cases e2; rfl⟩
theorem split_last {z : Str} (h : 0 < z.length) : ∃ c, c ∈ TL.tl z ∧ z = dl z ++ sg c := by
  have n : TL.tl z ≠ [] := List.length_pos_iff.mp (show 0 < (TL.tl z).length from h)
  refine ⟨(TL.tl z).getLast n, List.getLast_mem n, tl_inj ?_⟩
  rw [app_tl, dl_tl, sg_tl, List.dropLast_concat_getLast]
theorem dl_len {z : Str} : (dl z).length = z.length - 1 := by
  have := congrArg List.length (dl_tl z)
  rw [List.length_dropLast] at this
  exact this
theorem rst_len {z : Str} : (rst z).length = z.length - 1 := by
  have := congrArg List.length (rst_tl z)
  rw [List.length_drop] at this
  exact this
theorem sg_len (z : Str) (c : Nat) : (z ++ sg c).length = z.length + 1 := by
  have := congrArg List.length (app_tl z (sg c))
  rw [sg_tl, List.length_append] at this
  exact this
theorem nil_sg (c : Nat) : (Str.empty ++ sg c) = sg c := tl_inj (by rw [app_tl]; rfl)
/-- of these letters -/
def okA (al z : Str) : Prop := ∀ c ∈ TL.tl z, c ∈ TL.tl al
instance (al z : Str) : Decidable (okA al z) := inferInstanceAs (Decidable (∀ c ∈ TL.tl z, c ∈ TL.tl al))
theorem okA_app {al x y : Str} : okA al (x ++ y) ↔ okA al x ∧ okA al y := by
  unfold okA
  rw [app_tl]
  exact ⟨fun h => ⟨fun c m => h c (List.mem_append_left _ m), fun c m => h c (List.mem_append_right _ m)⟩, fun h c m => (List.mem_append.mp m).elim (h.1 c) (h.2 c)⟩
theorem okA_sg {al : Str} {c : Nat} : okA al (sg c) ↔ c ∈ TL.tl al := ⟨fun h => h c (List.mem_singleton.mpr rfl), fun h d m => by rw [sg_tl] at m; rw [List.mem_singleton.mp m]; exact h⟩
theorem okA_dl {al z : Str} (h : okA al z) : okA al (dl z) := fun c m => h c (by rw [dl_tl] at m; exact List.dropLast_subset _ m)
theorem okA_rst {al z : Str} (h : okA al z) : okA al (rst z) := fun c m => h c (by rw [rst_tl] at m; exact List.mem_of_mem_drop m)
/-- a least word that is missing -/
def MinA (O : List Str) (al z : Str) : Prop := okA al z ∧ z ∉ O ∧ (z.length = 1 ∨ (2 ≤ z.length ∧ dl z ∈ O ∧ rst z ∈ O))
theorem MinA.cong {O O' : List Str} (e : ∀ z, z ∈ O ↔ z ∈ O') {al z : Str} : MinA O al z ↔ MinA O' al z := by
  unfold MinA
  rw [e z, e (dl z), e (rst z)]
theorem MinA.rev {O : List Str} {al bl z : Str} (e : ∀ c, c ∈ TL.tl al ↔ c ∈ TL.tl bl) : MinA O al z ↔ MinA O bl z := by
  have : okA al z ↔ okA bl z := ⟨fun h c m => (e c).mp (h c m), fun h c m => (e c).mpr (h c m)⟩
  unfold MinA
  rw [this]
/-- one text within another -/
def within (d z : Str) : Prop := ∃ x y, TL.tl z = x ++ TL.tl d ++ y
theorem within_refl (z : Str) : within z z := ⟨[], [], by simp⟩
theorem within_dl {d z : Str} (h : within d (dl z)) (hz : 0 < z.length) : within d z := by
  obtain ⟨c, _, e⟩ := split_last hz
  obtain ⟨x, y, h⟩ := h
  refine ⟨x, y ++ [c], ?_⟩
  rw [e, app_tl, h, sg_tl, List.append_assoc, List.append_assoc]
theorem within_rst {d z : Str} (h : within d (rst z)) : within d z := by
  obtain ⟨x, y, h⟩ := h
  rw [rst_tl] at h
  cases e : TL.tl z with
  | nil => exact ⟨x, y, by rw [e] at h ⊢; exact h⟩
  | cons c r =>
    rw [e] at h
    exact ⟨c :: x, y, by rw [e, show (c :: x) ++ TL.tl d ++ y = c :: (x ++ TL.tl d ++ y) by simp, ← h]; rfl⟩
theorem within_in {d z : Str} (h : within d z) : (!(Builtin.Str.occurrences z d 0 z.length 1).isEmpty) = true := by
  rw [StrLaws.found_iff]
  obtain ⟨x, y, h⟩ := h
  have hl := congrArg List.length h
  rw [List.length_append, List.length_append] at hl
  have e1 : (TL.tl z).length = z.length := rfl
  have e2 : (TL.tl d).length = d.length := rfl
  refine ⟨x.length, by omega, ?_⟩
  rw [StrLaws.subAt_eq]
  refine beq_iff_eq.mpr ?_
  show ((TL.tl z).drop x.length).take d.length = TL.tl d
  rw [h, List.append_assoc, List.drop_left' rfl, List.take_left' (show (TL.tl d).length = d.length from rfl)]
/-- a word that is missing has a least one within it -/
theorem minA_in {O : List Str} {al : Str} : ∀ (n : Nat) (z : Str), z.length ≤ n → 0 < z.length → okA al z → z ∉ O → ∃ d, MinA O al d ∧ within d z
  | 0, z, h, h0, _, _ => by omega
  | n + 1, z, h, h0, ok, no => by
    by_cases c1 : z.length = 1
    · exact ⟨z, ⟨ok, no, .inl c1⟩, within_refl z⟩
    · by_cases c2 : dl z ∈ O
      · by_cases c3 : rst z ∈ O
        · exact ⟨z, ⟨ok, no, .inr ⟨by omega, c2, c3⟩⟩, within_refl z⟩
        · obtain ⟨d, h1, h2⟩ := minA_in n (rst z) (by rw [rst_len]; omega) (by rw [rst_len]; omega) (okA_rst ok) c3
          exact ⟨d, h1, within_rst h2⟩
      · obtain ⟨d, h1, h2⟩ := minA_in n (dl z) (by rw [dl_len]; omega) (by rw [dl_len]; omega) (okA_dl ok) c2
        exact ⟨d, h1, within_dl h2 h0⟩
/-! ### found by words and letters -/
/-- the last letters of the words that begin so -/
def lastC (z : Str) : Nat := (TL.tl z).getLastD 0
theorem lastC_app (z : Str) (c : Nat) : lastC (z ++ sg c) = c := by
  unfold lastC
  rw [app_tl, sg_tl, List.getLastD_concat]
theorem lastC_at {z : Str} (h : 0 < z.length) : atI z.cps.toList (-1) = some (lastC z) := by
  obtain ⟨c, _, e⟩ := split_last h
  have e2 : z.cps.toList = TL.tl (dl z) ++ [c] := by
    have := congrArg TL.tl e
    rw [app_tl, sg_tl] at this
    exact this
  have e3 : lastC z = c := by rw [e, lastC_app]
  rw [e2, e3]
  exact atI_last _ _
def behL (W : List Str) (u : Str) : List Nat := (W.filter fun x => decide (dl x = u)).map lastC
theorem mem_behL {W : List Str} (hW : ∀ w ∈ W, 0 < w.length) {u : Str} {c : Nat} : c ∈ behL W u ↔ (u ++ sg c) ∈ W := by
  unfold behL
  rw [List.mem_map]
  constructor
  · rintro ⟨x, hx, rfl⟩
    obtain ⟨h1, h2⟩ := List.mem_filter.mp hx
    obtain ⟨c, _, e⟩ := split_last (hW x h1)
    have h2 := of_decide_eq_true h2
    rw [h2] at e
    have : lastC x = c := by rw [e, lastC_app]
    rw [this, ← e]
    exact h1
  · intro h
    exact ⟨u ++ sg c, List.mem_filter.mpr ⟨h, decide_eq_true (dl_app u c)⟩, lastC_app u c⟩
theorem behL_nd {W : List Str} (nd : W.Nodup) (hW : ∀ w ∈ W, 0 < w.length) (u : Str) : (behL W u).Nodup := by
  unfold behL
  rw [List.Nodup, List.pairwise_map]
  refine (nd.filter _).imp_of_mem fun {x y} hx hy n e => ?_
  obtain ⟨h1, h2⟩ := List.mem_filter.mp hx
  obtain ⟨k1, k2⟩ := List.mem_filter.mp hy
  obtain ⟨c, _, e1⟩ := split_last (hW x h1)
  obtain ⟨d, _, e2⟩ := split_last (hW y k1)
  rw [of_decide_eq_true h2] at e1
  rw [of_decide_eq_true k2] at e2
  rw [e1, e2, lastC_app, lastC_app] at e
  exact n (by rw [e1, e2, e])
/-- the words that are made of a word and letters -/
def mkW (w : Str) (cs : List Nat) : List Str := cs.map fun c => w ++ sg c
def absF (al : Str) (W : List Str) : List Str := (((TL.tl al).filter fun c => !decide (sg c ∈ W)).map sg) ++ W.flatMap fun w => (mkW w (behL W (rst w))).filter fun z => !decide (z ∈ W)
theorem absF_is {O W : List Str} {al : Str} (hal : (TL.tl al).Nodup) (nd : W.Nodup) (hW : ∀ w, w ∈ W ↔ w ∈ O ∧ okA al w) (pos : ∀ z ∈ O, 0 < z.length) : (absF al W).Nodup ∧ ∀ z, z ∈ absF al W ↔ MinA O al z := by
  have posW : ∀ w ∈ W, 0 < w.length := fun w h => pos w ((hW w).mp h).1
  have long : ∀ w ∈ W, ∀ z ∈ (mkW w (behL W (rst w))).filter fun z => !decide (z ∈ W), 2 ≤ z.length ∧ ∃ c, z = w ++ sg c := fun w hw z hz => by
    obtain ⟨h1, _⟩ := List.mem_filter.mp hz
    obtain ⟨c, _, rfl⟩ := List.mem_map.mp h1
    have := posW w hw
    exact ⟨by rw [sg_len]; omega, c, rfl⟩
  constructor
  · unfold absF
    rw [List.nodup_append]
    refine ⟨?_, ?_, fun x hx y hy e => ?_⟩
    · rw [List.Nodup, List.pairwise_map]
      exact (hal.filter _).imp fun n e => n (by have := congrArg TL.tl e; rw [sg_tl, sg_tl] at this; cases this; rfl)
    · rw [List.Nodup, List.pairwise_flatMap]
      refine ⟨fun w hw => ?_, nd.imp_of_mem fun {w v} hw hv n x hx y hy e => ?_⟩
      · refine List.Pairwise.filter _ ?_
        unfold mkW
        rw [List.pairwise_map]
        exact (behL_nd nd posW _).imp fun n e => n (app_sg_inj e).2
      · obtain ⟨_, c, rfl⟩ := long w hw x hx
        obtain ⟨_, d, rfl⟩ := long v hv y hy
        exact n (app_sg_inj e).1
    · obtain ⟨c, _, rfl⟩ := List.mem_map.mp hx
      obtain ⟨w, hw, hy⟩ := List.mem_flatMap.mp hy
      have h2 := (long w hw y hy).1
      rw [← e] at h2
      exact absurd h2 (by show ¬ 2 ≤ 1; omega)
  · intro z
    unfold absF
    rw [List.mem_append, List.mem_map, List.mem_flatMap]
    constructor
    · rintro (⟨c, hc, rfl⟩ | ⟨w, hw, hz⟩)
      · obtain ⟨h1, h2⟩ := List.mem_filter.mp hc
        have h2 : sg c ∉ W := fun m => by rw [decide_eq_true m] at h2; cases h2
        have ok := okA_sg.mpr h1
        exact ⟨ok, fun m => h2 ((hW _).mpr ⟨m, ok⟩), .inl rfl⟩
      · obtain ⟨h1, h2⟩ := List.mem_filter.mp hz
        have h2 : z ∉ W := fun m => by rw [decide_eq_true m] at h2; cases h2
        obtain ⟨c, hc, rfl⟩ := List.mem_map.mp h1
        have hx := (mem_behL posW).mp hc
        obtain ⟨x1, x2⟩ := (hW _).mp hx
        obtain ⟨w1, w2⟩ := (hW _).mp hw
        have pw := posW w hw
        have ok : okA al (w ++ sg c) := okA_app.mpr ⟨w2, (okA_app.mp x2).2⟩
        refine ⟨ok, fun m => h2 ((hW _).mpr ⟨m, ok⟩), .inr ⟨by rw [sg_len]; omega, by rw [dl_app]; exact w1, by rw [rst_app c pw]; exact x1⟩⟩
    · rintro ⟨ok, no, h⟩
      have noW : z ∉ W := fun m => no ((hW z).mp m).1
      rcases h with h1 | ⟨h2, hd, hr⟩
      · obtain ⟨c, hc, e⟩ := split_last (z := z) (by omega)
        have e0 : dl z = Str.empty := tl_inj (by
          refine List.eq_nil_of_length_eq_zero ?_
          show (dl z).length = 0
          rw [dl_len]
          omega)
        rw [e0, nil_sg] at e
        refine .inl ⟨c, List.mem_filter.mpr ⟨ok c hc, ?_⟩, e.symm⟩
        rw [← e, decide_eq_false noW]
        rfl
      · obtain ⟨c, hc, e⟩ := split_last (z := z) (by omega)
        refine .inr ⟨dl z, (hW _).mpr ⟨hd, okA_dl ok⟩, List.mem_filter.mpr ⟨List.mem_map.mpr ⟨c, (mem_behL posW).mpr ?_, e.symm⟩, by rw [decide_eq_false noW]; rfl⟩⟩
        have pd : 0 < (dl z).length := by rw [dl_len]; omega
        rw [← rst_app c pd, ← e]
        exact (hW _).mpr ⟨hr, okA_rst ok⟩
/-- gone through all words and all letters -/
def dueF (al : Str) (O Ws : List Str) : List Str := Ws.flatMap fun w => (mkW w (TL.tl al)).filter fun z => decide (okA al w ∧ z ∉ O ∧ (w = Str.empty ∨ rst z ∈ O))
theorem dueF_is {O Ws : List Str} {al : Str} (hal : (TL.tl al).Nodup) (nd : Ws.Nodup) (hW : ∀ w, w ∈ Ws ↔ w = Str.empty ∨ w ∈ O) (pos : ∀ z ∈ O, 0 < z.length) : (dueF al O Ws).Nodup ∧ ∀ z, z ∈ dueF al O Ws ↔ MinA O al z := by
  constructor
  · unfold dueF
    rw [List.Nodup, List.pairwise_flatMap]
    refine ⟨fun w hw => ?_, nd.imp_of_mem fun {w v} hw hv n x hx y hy e => ?_⟩
    · refine List.Pairwise.filter _ ?_
      unfold mkW
      rw [List.pairwise_map]
      exact hal.imp fun n e => n (app_sg_inj e).2
    · obtain ⟨c, _, rfl⟩ := List.mem_map.mp (List.mem_filter.mp hx).1
      obtain ⟨d, _, rfl⟩ := List.mem_map.mp (List.mem_filter.mp hy).1
      exact n (app_sg_inj e).1
  · intro z
    unfold dueF
    rw [List.mem_flatMap]
    constructor
    · rintro ⟨w, hw, hz⟩
      obtain ⟨h1, h2⟩ := List.mem_filter.mp hz
      obtain ⟨c, hc, rfl⟩ := List.mem_map.mp h1
      obtain ⟨o1, o2, o3⟩ := of_decide_eq_true h2
      have ok : okA al (w ++ sg c) := okA_app.mpr ⟨o1, okA_sg.mpr hc⟩
      refine ⟨ok, o2, ?_⟩
      rcases (hW w).mp hw with e | m
      · exact .inl (by rw [e, sg_len]; rfl)
      · have pw := pos w m
        refine .inr ⟨by rw [sg_len]; omega, by rw [dl_app]; exact m, ?_⟩
        rcases o3 with e | o3
        · rw [e] at pw
          exact absurd pw (by decide)
        · exact o3
    · rintro ⟨ok, no, h⟩
      obtain ⟨c, hc, e⟩ := split_last (z := z) (by omega)
      have ok2 : okA al (dl z) := okA_dl ok
      refine ⟨dl z, (hW _).mpr ?_, List.mem_filter.mpr ⟨List.mem_map.mpr ⟨c, ok c hc, e.symm⟩, decide_eq_true ⟨ok2, no, ?_⟩⟩⟩
      · rcases h with h1 | ⟨h2, hd, hr⟩
        · refine .inl (tl_inj (List.eq_nil_of_length_eq_zero ?_))
          show (dl z).length = 0
          rw [dl_len]
          omega
        · exact .inr hd
      · rcases h with h1 | ⟨h2, hd, hr⟩
        · refine .inl (tl_inj (List.eq_nil_of_length_eq_zero ?_))
          show (dl z).length = 0
          rw [dl_len]
          omega
        · exact .inr hr
theorem sortZ (enc : Str → PyData) (F : List Str) : ((F.map fun z => (V.str z, z)).mergeSort (PySem.W.dataLe false fun z => enc z.2)).map (·.1) = (F.mergeSort (PySem.W.dataLe false enc)).map V.str := by
  rw [← List.map_mergeSort (l := F) (f := fun z : Str => (V.str z, z)) (r := PySem.W.dataLe false enc) (s := PySem.W.dataLe false fun z : V × Str => enc z.2) (fun a _ b _ => rfl), List.map_map]
  rfl
theorem sorted2 {F : List Str} (nd : F.Nodup) : StrL F ((F.mergeSort (PySem.W.dataLe false PyData.str)).mergeSort fun x y => decide (x.length ≤ y.length)) := by
  have pm := List.mergeSort_perm F (PySem.W.dataLe false PyData.str)
  exact (lenSort (pm.nodup_iff.mpr nd) (str_sort F)).cong fun z => pm.mem_iff
theorem sorted1 {F : List Str} (nd : F.Nodup) : StrL F (F.mergeSort (PySem.W.dataLe false eLen)) := by
  have pm := List.mergeSort_perm F (PySem.W.dataLe false eLen)
  exact ⟨pm.nodup_iff.mpr nd, eLen_sort F, fun z => pm.mem_iff⟩
theorem flat_len {α β : Type} {f : α → List β} {m : Nat} : ∀ {l : List α}, (∀ x ∈ l, (f x).length ≤ m) → (l.flatMap f).length ≤ l.length * m
  | [], _ => by simp
  | x :: r, h => by
    have ih := flat_len (f := f) fun y hy => h y (List.mem_cons_of_mem _ hy)
    have h1 := h x (List.mem_cons_self ..)
    have : (x :: r).flatMap f = f x ++ r.flatMap f := rfl
    rw [this, List.length_append, List.length_cons, Nat.succ_mul]
    omega
theorem behL_len (W : List Str) (u : Str) : (behL W u).length ≤ W.length := by
  unfold behL
  rw [List.length_map]
  exact List.length_filter_le _ _
/-- a table of just these words -/
def Kn (kvs : List (Key × V)) (W : List Str) : Prop := ∀ z : Str, valV kvs (.inr z) = if z ∈ W then some (.bl true) else none
theorem Kn.nil : Kn [] [] := fun z => rfl
theorem Kn.put {kvs : List (Key × V)} {W : List Str} (h : Kn kvs W) (z : Str) : Kn (putK kvs (.inr z) (.bl true)) (W ++ [z]) := fun y => by
  rw [valV_put, h y]
  by_cases c : y = z
  · subst c
    rw [if_pos rfl, if_pos (List.mem_append_right _ (List.mem_singleton.mpr rfl))]
  · have c2 : ¬ (Sum.inr y : Key) = .inr z := fun e => c (Sum.inr.inj e)
    rw [if_neg c2]
    by_cases d : y ∈ W
    · rw [if_pos d, if_pos (List.mem_append_left _ d)]
    · rw [if_neg d, if_neg fun m => (List.mem_append.mp m).elim d fun m => c (List.mem_singleton.mp m)]
/-- what a list of found words and letters looks up -/
theorem vd_get {H0 H : Hp} {D : Addr} {T : VT} {W : List Str} (h : Vd H0 H D T) (o : VdOf T (W.map fun x => (dl x, V.str (sg (lastC x))))) (u : Str) :
    (∃ r : Addr, valV (vkvs T) (.inr u) = some (.ref r) ∧ H r = some (.lst ((behL W u).map fun c => V.str (sg c)))) ∨ (valV (vkvs T) (.inr u) = none ∧ behL W u = []) := by
  by_cases c : u ∈ T.map (·.1)
  · obtain ⟨e, he, rfl⟩ := List.mem_map.mp c
    refine .inl ⟨e.2.1, h.val_of he, ?_⟩
    rw [(h.row e he).1, o.val e he]
    unfold behL
    rw [List.filter_map, List.map_map, List.map_map]
    rfl
  · refine .inr ⟨vkvs_none c, ?_⟩
    unfold behL
    rw [List.filter_eq_nil_iff.mpr fun x hx hd => ?_]
    · rfl
    · refine c ((o.mem u).mpr ?_)
      rw [List.map_map, ← of_decide_eq_true hd]
      exact List.mem_map_of_mem (f := (fun o : Str × V => o.1) ∘ fun x => (dl x, V.str (sg (lastC x)))) hx
structure AbsL (O : List Str) (al : Str) (l : List Str) : Prop where
  nd : l.Nodup
  pw : l.Pairwise leL
  mem : ∀ z, z ∈ l ↔ MinA O al z
theorem AbsL.uniq {O l m : List Str} {al bl : Str} (h : AbsL O al l) (k : AbsL O bl m) (e : ∀ c, c ∈ TL.tl al ↔ c ∈ TL.tl bl) : l = m :=
  ((List.perm_ext_iff_of_nodup h.nd k.nd).mpr fun z => (h.mem z).trans ((MinA.rev e).trans (k.mem z).symm)).eq_of_pairwise (fun a b _ _ => leL_anti) h.pw k.pw
theorem StrL.absL {F O l : List Str} {al : Str} (h : StrL F l) (e : ∀ z, z ∈ F ↔ MinA O al z) : AbsL O al l := ⟨h.nd, h.pw, fun z => (h.mem z).trans (e z)⟩
/-! ### lists of texts as data -/
def dTx (l : List Str) : PyData := .list (l.map .str)
theorem dp_txs {K : PySem.W.Frag} {H : Hp} : ∀ (l : List Str), DpAll K H (l.map V.str) (l.map PyData.str)
  | [] => .nil
  | _ :: r => .cons (.str _) (dp_txs r)
theorem dp_tx {K : PySem.W.Frag} {H : Hp} {a : Addr} {l : List Str} (h : SqL K H a (l.map V.str)) : Dp K H (.ref a) (dTx l) := .lst h (dp_txs l)
theorem okd_Tx {l : List Str} (h : ∀ z ∈ l, IsLet z) : Okd (dTx l) := by
  refine ⟨?_, ?_⟩
  · show PyData.canLayAll0 (l.map PyData.str) = true
    refine lay_all fun d hd => ?_
    obtain ⟨z, hz, rfl⟩ := List.mem_map.mp hd
    exact let_ok (h z hz)
  · have : ∀ l : List Str, PyData.depthAll (l.map PyData.str) = 0 := by
      intro l
      induction l with
      | nil => rfl
      | cons a r ih => rw [List.map_cons]; show max 0 (PyData.depthAll (r.map PyData.str)) = 0; rw [ih]; rfl
    show PyData.depthAll (l.map PyData.str) + 1 ≤ 60
    rw [this]
    decide
theorem eqv_nilTx (l : List Str) : PyData.eqv (dTx l) (dTx []) = decide (l = []) := by
  cases l with
  | nil => rfl
  | cons a r => rfl
theorem let_of {al z : Str} (hal : IsLet al) (h : okA al z) : IsLet z := List.all_eq_true.mpr fun c hc => List.all_eq_true.mp hal c (h c hc)
end SH
/-! Words, stretches, and the words that no letter must stand ahead of: the longest words of the classes. -/
namespace Sam
abbrev Wd := List Nat
def Inner (D : List Wd) (u : Wd) : Prop := ∃ t ∈ D, ∃ x y, t = x ++ u ++ y
def Pre (D : List Wd) (u : Wd) : Prop := ∃ t ∈ D, ∃ y, t = u ++ y
/-- left-closed: a beginning of a text, or with two letters ahead -/
def LC (D : List Wd) (u : Wd) : Prop := Pre D u ∨ ∃ a b, a ≠ b ∧ Inner D (a :: u) ∧ Inner D (b :: u)
theorem Pre.inner {D : List Wd} {u : Wd} : Pre D u → Inner D u := fun ⟨t, m, y, e⟩ => ⟨t, m, [], y, by rw [e]; rfl⟩
theorem Inner.suf {D : List Wd} {u v : Wd} (h : Inner D v) (s : u <:+ v) : Inner D u := by
  obtain ⟨t, m, x, y, e⟩ := h
  obtain ⟨z, rfl⟩ := s
  exact ⟨t, m, x ++ z, y, by rw [e]; simp⟩
theorem Inner.left {D : List Wd} {u v : Wd} (h : Inner D (u ++ v)) : Inner D u := by
  obtain ⟨t, m, x, y, e⟩ := h
  exact ⟨t, m, x, v ++ y, by rw [e]; simp⟩
theorem LC.inner {D : List Wd} {u : Wd} (h : LC D u) : Inner D u := by
  rcases h with h | ⟨a, b, _, h, _⟩
  · exact h.inner
  · exact h.suf ⟨[a], rfl⟩
theorem LC.left {D : List Wd} {u v : Wd} (h : LC D (u ++ v)) : LC D u := by
  rcases h with ⟨t, m, y, e⟩ | ⟨a, b, n, h1, h2⟩
  · exact .inl ⟨t, m, v ++ y, by rw [e]; simp⟩
  · exact .inr ⟨a, b, n, Inner.left (u := a :: u) (v := v) h1, Inner.left (u := b :: u) (v := v) h2⟩
/-- v is the longest word of u's class, told by the longest words alone -/
def Ext (L : Wd → Prop) (u v : Wd) : Prop := L v ∧ u <:+ v ∧ ∀ w, L w → u <:+ w → w <:+ v → w = v
def Link (L : Wd → Prop) (v w : Wd) : Prop := L w ∧ w <:+ v ∧ w ≠ v ∧ ∀ x, L x → x <:+ v → x ≠ v → x <:+ w
theorem Ext.self {L : Wd → Prop} {u : Wd} (h : L u) : Ext L u u := ⟨h, List.suffix_refl _, fun _ _ h1 h2 => h2.eq_of_length (Nat.le_antisymm h2.length_le h1.length_le)⟩
theorem Ext.of_mem {L : Wd → Prop} {u v : Wd} (h : Ext L u v) (l : L u) : v = u := (h.2.2 u l (List.suffix_refl _) h.2.1).symm
theorem Ext.up {L : Wd → Prop} {u u' v : Wd} (h : Ext L u v) (s : u <:+ u') (t : u' <:+ v) : Ext L u' v := ⟨h.1, t, fun w l h1 h2 => h.2.2 w l (s.trans h1) h2⟩
theorem suf_of {a b c : Wd} (h1 : a <:+ c) (h2 : b <:+ c) (h : a.length ≤ b.length) : a <:+ b := List.suffix_of_suffix_length_le h1 h2 h
theorem suf_tot {a b c : Wd} (h1 : a <:+ c) (h2 : b <:+ c) : a <:+ b ∨ b <:+ a := (Nat.le_total a.length b.length).imp (suf_of h1 h2) (suf_of h2 h1)
theorem suf_cons {u v : Wd} (h : u <:+ v) (n : u ≠ v) : ∃ a, (a :: u) <:+ v := by
  obtain ⟨x, rfl⟩ := h
  have : x ≠ [] := fun z => n (by rw [z]; rfl)
  refine ⟨x.getLast this, x.dropLast, ?_⟩
  have e := List.dropLast_concat_getLast this
  calc x.dropLast ++ x.getLast this :: u = (x.dropLast ++ [x.getLast this]) ++ u := by simp
    _ = x ++ u := by rw [e]
theorem suf_antisymm {u v : Wd} (h1 : u <:+ v) (h2 : v <:+ u) : u = v := h1.eq_of_length (Nat.le_antisymm h1.length_le h2.length_le)
theorem cons_suf_inj {a b : Nat} {u v : Wd} (h1 : (a :: u) <:+ v) (h2 : (b :: u) <:+ v) : a = b := by
  have := suf_of h1 h2 (by simp)
  have := this.eq_of_length (by simp)
  injection this
/-- a step to the left -/
theorem ext_left {D : List Wd} {u v : Wd} (h : Ext (LC D) u v) (n : u ≠ v) : ¬ LC D u ∧ ∃ a, Ext (LC D) (a :: u) v := by
  refine ⟨fun l => n (h.of_mem l).symm, ?_⟩
  obtain ⟨a, ha⟩ := suf_cons h.2.1 n
  exact ⟨a, h.up ⟨[a], rfl⟩ ha⟩
theorem ext_uniq {D : List Wd} {v v' : Wd} : ∀ (n : Nat) {u : Wd}, v.length - u.length ≤ n → Ext (LC D) u v → Ext (LC D) u v' → v = v'
  | n, u, hn, h, h' => by
    by_cases l : LC D u
    · rw [h.of_mem l, h'.of_mem l]
    · have n1 : u ≠ v := fun e => l (by rw [e]; exact h.1)
      have n2 : u ≠ v' := fun e => l (by rw [e]; exact h'.1)
      obtain ⟨_, a, ha⟩ := ext_left h n1
      obtain ⟨_, b, hb⟩ := ext_left h' n2
      have e : a = b := Classical.byContradiction fun z => l (.inr ⟨a, b, z, ha.1.inner.suf ha.2.1, hb.1.inner.suf hb.2.1⟩)
      subst e
      have hl := ha.2.1.length_le
      rw [List.length_cons] at hl
      match n, hn with
      | 0, hn => omega
      | n + 1, hn => exact ext_uniq n (by rw [List.length_cons]; omega) ha hb
theorem Ext.uniq {D : List Wd} {u v v' : Wd} (h : Ext (LC D) u v) (h' : Ext (LC D) u v') : v = v' := ext_uniq _ (Nat.le_refl _) h h'
theorem maxlen (D : List Wd) : ∃ m, ∀ u, Inner D u → u.length ≤ m := by
  have key : ∀ (D : List Wd) (t : Wd), t ∈ D → t.length ≤ (D.map List.length).sum := by
    intro D
    induction D with
    | nil => intro t m; cases m
    | cons d r ih =>
      intro t m
      rw [List.map_cons, List.sum_cons]
      rcases List.mem_cons.mp m with e | m
      · rw [e]; omega
      · have := ih t m; omega
  refine ⟨(D.map List.length).sum, fun u ⟨t, m, x, y, e⟩ => ?_⟩
  have h1 : u.length ≤ t.length := by rw [e]; simp; omega
  have h2 := key D t m
  omega
theorem ext_ex {D : List Wd} {m : Nat} (hm : ∀ u, Inner D u → u.length ≤ m) : ∀ (n : Nat) {u : Wd}, m - u.length ≤ n → Inner D u → ∃ v, Ext (LC D) u v
  | n, u, hn, h => by
    by_cases l : LC D u
    · exact ⟨u, .self l⟩
    · obtain ⟨t, mt, x, y, e⟩ := h
      have nx : x ≠ [] := fun z => l (.inl ⟨t, mt, y, by rw [e, z]; rfl⟩)
      have ex := List.dropLast_concat_getLast nx
      have h2 : Inner D (x.getLast nx :: u) := ⟨t, mt, x.dropLast, y, by rw [e]; (conv => lhs; rw [← ex]); simp⟩
      have hl := hm _ h2
      rw [List.length_cons] at hl
      match n, hn with
      | 0, hn => omega
      | n + 1, hn =>
        obtain ⟨v, hv⟩ := ext_ex hm n (u := x.getLast nx :: u) (by rw [List.length_cons]; omega) h2
        refine ⟨v, hv.1, List.IsSuffix.trans ⟨[x.getLast nx], rfl⟩ hv.2.1, fun w lw h1 h3 => ?_⟩
        by_cases e2 : u = w
        · exact absurd (e2 ▸ lw) l
        · obtain ⟨b, hb⟩ := suf_cons h1 e2
          have : b = x.getLast nx := cons_suf_inj (hb.trans h3) hv.2.1
          subst this
          exact hv.2.2 w lw hb h3
theorem Inner.ext {D : List Wd} {u : Wd} (h : Inner D u) : ∃ v, Ext (LC D) u v := by
  obtain ⟨m, hm⟩ := maxlen D
  exact ext_ex hm _ (Nat.le_refl _) h
theorem Ext.inner {D : List Wd} {u v : Wd} (h : Ext (LC D) u v) : Inner D u := h.1.inner.suf h.2.1
/-- where u stands, v stands -/
theorem ext_occ {D : List Wd} {v : Wd} : ∀ (n : Nat) {u : Wd}, v.length - u.length ≤ n → Ext (LC D) u v → ∀ {t x y : Wd}, t ∈ D → t = x ++ u ++ y → ∃ x', t = x' ++ v ++ y
  | n, u, hn, h, t, x, y, mt, e => by
    by_cases n1 : u = v
    · exact ⟨x, by rw [← n1]; exact e⟩
    · obtain ⟨nl, a, ha⟩ := ext_left h n1
      have nx : x ≠ [] := fun z => nl (.inl ⟨t, mt, y, by rw [e, z]; rfl⟩)
      have ex := List.dropLast_concat_getLast nx
      have e2 : t = x.dropLast ++ (x.getLast nx :: u) ++ y := by rw [e]; (conv => lhs; rw [← ex]); simp
      have h2 : Inner D (x.getLast nx :: u) := ⟨t, mt, x.dropLast, y, e2⟩
      have ea : a = x.getLast nx := Classical.byContradiction fun z => nl (.inr ⟨a, _, z, ha.inner, h2⟩)
      rw [← ea] at e2
      have hl := ha.2.1.length_le
      rw [List.length_cons] at hl
      match n, hn with
      | 0, hn => omega
      | n + 1, hn => exact ext_occ n (by rw [List.length_cons]; omega) ha mt e2
theorem Ext.occ {D : List Wd} {u v t x y : Wd} (h : Ext (LC D) u v) (mt : t ∈ D) (e : t = x ++ u ++ y) : ∃ x', t = x' ++ v ++ y := ext_occ _ (Nat.le_refl _) h mt e
theorem Ext.inner_app {D : List Wd} {u v y : Wd} (h : Ext (LC D) u v) : Inner D (u ++ y) ↔ Inner D (v ++ y) := by
  constructor
  · rintro ⟨t, m, x, z, e⟩
    obtain ⟨x', e'⟩ := h.occ (x := x) (y := y ++ z) m (by rw [e]; simp)
    exact ⟨t, m, x', z, by rw [e']; simp⟩
  · intro i
    obtain ⟨s, rfl⟩ := h.2.1
    exact i.suf ⟨s, by simp⟩
theorem suf_app {u v y : Wd} (h : u <:+ v) : (u ++ y) <:+ (v ++ y) := by
  obtain ⟨s, rfl⟩ := h
  exact ⟨s, by simp⟩
theorem suf_snoc {u v : Wd} {c d : Nat} (h : (u ++ [c]) <:+ (v ++ [d])) : c = d ∧ u <:+ v := by
  obtain ⟨s, e⟩ := h
  rw [← List.append_assoc] at e
  have := List.append_inj' e rfl
  exact ⟨by simpa using this.2, ⟨s, this.1⟩⟩
/-- longer words of one class lead to one class -/
theorem ext_app {D : List Wd} {u v z : Wd} {d : Nat} (h : Ext (LC D) u v) : Ext (LC D) (u ++ [d]) z ↔ Ext (LC D) (v ++ [d]) z := by
  constructor
  · intro hz
    have i : Inner D (v ++ [d]) := h.inner_app.mp hz.inner
    obtain ⟨z', hz'⟩ := i.ext
    have : Ext (LC D) (u ++ [d]) z' := by
      refine ⟨hz'.1, (suf_app h.2.1).trans hz'.2.1, fun w lw h1 h2 => ?_⟩
      rcases suf_tot hz'.2.1 h2 with s | s
      · exact hz'.2.2 w lw s h2
      · -- w is within v d
        obtain ⟨w', rfl⟩ : ∃ w', w = w' ++ [d] := by
          obtain ⟨s', e'⟩ := h1
          exact ⟨s' ++ u, by rw [← e']; simp⟩
        have lw' := lw.left
        have := h.2.2 w' lw' (suf_snoc h1).2 (suf_snoc s).2
        subst this
        exact hz'.2.2 _ lw (List.suffix_refl _) h2
    exact hz.uniq this ▸ hz'
  · intro hz
    refine ⟨hz.1, (suf_app h.2.1).trans hz.2.1, fun w lw h1 h2 => ?_⟩
    rcases suf_tot hz.2.1 h2 with s | s
    · exact hz.2.2 w lw s h2
    · obtain ⟨w', rfl⟩ : ∃ w', w = w' ++ [d] := by
        obtain ⟨s', e'⟩ := h1
        exact ⟨s' ++ u, by rw [← e']; simp⟩
      have := h.2.2 w' lw.left (suf_snoc h1).2 (suf_snoc s).2
      subst this
      exact hz.2.2 _ lw (List.suffix_refl _) h2
end Sam
set_option linter.all false
/-! A word more among the longest ones: what becomes of the classes. -/
namespace Sam
theorem Link.uniq {L : Wd → Prop} {v w w' : Wd} (h : Link L v w) (h' : Link L v w') : w = w' :=
  suf_antisymm (h'.2.2.2 w h.1 h.2.1 h.2.2.1) (h.2.2.2 w' h'.1 h'.2.1 h'.2.2.1)
theorem link_ex {L : Wd → Prop} (h0 : L []) : ∀ v : Wd, v ≠ [] → ∃ w, Link L v w
  | [], n => absurd rfl n
  | a :: u, _ => by
    have su : u <:+ (a :: u) := ⟨[a], rfl⟩
    have nu : u ≠ a :: u := fun e => by have := congrArg List.length e; simp at this
    have cut : ∀ x : Wd, x <:+ (a :: u) → x ≠ a :: u → x <:+ u := fun x h n => by
      rcases List.suffix_cons_iff.mp h with e | s
      · exact absurd e n
      · exact s
    by_cases l : L u
    · exact ⟨u, l, su, nu, fun x _ h n => cut x h n⟩
    · have n : u ≠ [] := fun e => l (e ▸ h0)
      obtain ⟨w, h1, h2, h3, h4⟩ := link_ex h0 u n
      refine ⟨w, h1, h2.trans su, fun e => ?_, fun x lx h n => h4 x lx (cut x h n) fun e => l (e ▸ lx)⟩
      have := h2.length_le
      rw [e, List.length_cons] at this
      omega
/-! a word m within v's class becomes a longest one -/
section
variable {D : List Wd} {L' : Wd → Prop} {m v : Wd} (hm : Ext (LC D) m v) (nm : ¬ LC D m) (hL : ∀ w, L' w ↔ LC D w ∨ w = m)
include hm nm hL
theorem split_ne : v ≠ m := fun e => nm (e ▸ hm.1)
theorem split_cut {x : Wd} (lx : LC D x) (s : x <:+ v) (n : x ≠ v) : x <:+ m ∧ x ≠ m := by
  refine ⟨?_, fun e => nm (e ▸ lx)⟩
  rcases suf_tot s hm.2.1 with h | h
  · exact h
  · exact absurd (hm.2.2 x lx h s) n
theorem split_ext_new {u : Wd} : Ext L' u m ↔ u <:+ m ∧ Ext (LC D) u v := by
  constructor
  · rintro ⟨_, s, h⟩
    refine ⟨s, hm.1, s.trans hm.2.1, fun w lw h1 h2 => Classical.byContradiction fun n => ?_⟩
    obtain ⟨c1, c2⟩ := split_cut hm nm hL lw h2 n
    exact c2 (h w ((hL w).mpr (.inl lw)) h1 c1)
  · rintro ⟨s, h⟩
    refine ⟨(hL m).mpr (.inr rfl), s, fun w lw h1 h2 => ?_⟩
    rcases (hL w).mp lw with l | e
    · have e := h.2.2 w l h1 (h2.trans hm.2.1)
      have := h2.length_le
      exact absurd (suf_antisymm h2 (e ▸ hm.2.1)) fun e2 => nm (e2 ▸ l)
    · exact e
theorem split_ext_old {u z : Wd} (nz : z ≠ m) : Ext L' u z ↔ Ext (LC D) u z ∧ ¬ (u <:+ m ∧ z = v) := by
  constructor
  · rintro ⟨l, s, h⟩
    have lz : LC D z := ((hL z).mp l).resolve_right nz
    refine ⟨⟨lz, s, fun w lw => h w ((hL w).mpr (.inl lw))⟩, ?_⟩
    rintro ⟨s2, e⟩
    exact nz (h m ((hL m).mpr (.inr rfl)) s2 (e ▸ hm.2.1)).symm
  · rintro ⟨h, n⟩
    refine ⟨(hL z).mpr (.inl h.1), h.2.1, fun w lw h1 h2 => ?_⟩
    rcases (hL w).mp lw with l | e
    · exact h.2.2 w l h1 h2
    · rw [e] at h1 h2
      exact absurd ⟨h1, (h.up h1 h2).uniq hm⟩ n
theorem split_link_new {w : Wd} : Link L' m w ↔ Link (LC D) v w := by
  constructor
  · rintro ⟨l, s, n, h⟩
    have lw := ((hL w).mp l).resolve_right n
    refine ⟨lw, s.trans hm.2.1, fun e => ?_, fun x lx h1 h2 => ?_⟩
    · exact nm (suf_antisymm s (e ▸ hm.2.1) ▸ lw)
    · obtain ⟨c1, c2⟩ := split_cut hm nm hL lx h1 h2
      exact h x ((hL x).mpr (.inl lx)) c1 c2
  · rintro ⟨l, s, n, h⟩
    obtain ⟨c1, c2⟩ := split_cut hm nm hL l s n
    refine ⟨(hL w).mpr (.inl l), c1, c2, fun x lx h1 h2 => ?_⟩
    have l2 := ((hL x).mp lx).resolve_right h2
    exact h x l2 (h1.trans hm.2.1) fun e => nm (suf_antisymm h1 (e ▸ hm.2.1) ▸ l2)
theorem split_link_v {w : Wd} : Link L' v w ↔ w = m := by
  have key : Link L' v m := by
    refine ⟨(hL m).mpr (.inr rfl), hm.2.1, fun e => nm (e ▸ hm.1), fun x lx h1 h2 => ?_⟩
    rcases (hL x).mp lx with l | e
    · exact (split_cut hm nm hL l h1 h2).1
    · exact e ▸ List.suffix_refl _
  exact ⟨fun h => h.uniq key, fun e => e ▸ key⟩
theorem split_link_old {z w : Wd} (lz : LC D z) (nz : z ≠ v) : Link L' z w ↔ Link (LC D) z w := by
  have nzm : z ≠ m := fun e => nm (e ▸ lz)
  constructor
  · rintro ⟨l, s, n, h⟩
    have lw : LC D w := by
      rcases (hL w).mp l with l | e
      · exact l
      · refine absurd ?_ nz
        rw [e] at s n h
        refine (Ext.uniq (u := m) ⟨lz, s, fun x lx h1 h2 => Classical.byContradiction fun n2 => ?_⟩ hm)
        have := h x ((hL x).mpr (.inl lx)) h2 n2
        exact nm (suf_antisymm this h1 ▸ lx)
    exact ⟨lw, s, n, fun x lx => h x ((hL x).mpr (.inl lx))⟩
  · rintro ⟨l, s, n, h⟩
    refine ⟨(hL w).mpr (.inl l), s, n, fun x lx h1 h2 => ?_⟩
    rcases (hL x).mp lx with l2 | e
    · exact h x l2 h1 h2
    · rw [e] at h1 ⊢
      rcases suf_tot h1 s with q | q
      · exact q
      · refine absurd ((Ext.uniq (u := m) ⟨lz, h1, fun x lx h3 h4 => Classical.byContradiction fun n2 => ?_⟩ hm)) nz
        have := h x lx h4 n2
        exact nm (suf_antisymm (this.trans q) h3 ▸ lx)
end
/-! a word f that stands nowhere else becomes one -/
section
variable {L L' : Wd → Prop} {f : Wd} (nf : ∀ w, L w → ¬ f <:+ w) (hL : ∀ w, L' w ↔ L w ∨ w = f)
include nf hL
theorem fresh_ext_new {u : Wd} : Ext L' u f ↔ u <:+ f ∧ ∀ w, L w → u <:+ w → ¬ w <:+ f := by
  constructor
  · rintro ⟨_, s, h⟩
    refine ⟨s, fun w lw h1 h2 => ?_⟩
    have := h w ((hL w).mpr (.inl lw)) h1 h2
    exact nf w lw (this ▸ List.suffix_refl _)
  · rintro ⟨s, h⟩
    refine ⟨(hL f).mpr (.inr rfl), s, fun w lw h1 h2 => ?_⟩
    rcases (hL w).mp lw with l | e
    · exact absurd h2 (h w l h1)
    · exact e
theorem fresh_ext_old {u z : Wd} (nz : z ≠ f) : Ext L' u z ↔ Ext L u z := by
  constructor
  · rintro ⟨l, s, h⟩
    exact ⟨((hL z).mp l).resolve_right nz, s, fun w lw => h w ((hL w).mpr (.inl lw))⟩
  · rintro ⟨l, s, h⟩
    refine ⟨(hL z).mpr (.inl l), s, fun w lw h1 h2 => ?_⟩
    rcases (hL w).mp lw with q | e
    · exact h w q h1 h2
    · exact absurd (e ▸ h2) (nf z l)
theorem fresh_link_old {z w : Wd} (lz : L z) : Link L' z w ↔ Link L z w := by
  constructor
  · rintro ⟨l, s, n, h⟩
    refine ⟨((hL w).mp l).resolve_right fun e => nf z lz (e ▸ s), s, n, fun x lx => h x ((hL x).mpr (.inl lx))⟩
  · rintro ⟨l, s, n, h⟩
    refine ⟨(hL w).mpr (.inl l), s, n, fun x lx h1 h2 => ?_⟩
    rcases (hL x).mp lx with q | e
    · exact h x q h1 h2
    · exact absurd (e ▸ h1) (nf z lz)
theorem fresh_link_new {w : Wd} : Link L' f w ↔ L w ∧ w <:+ f ∧ ∀ x, L x → x <:+ f → x <:+ w := by
  constructor
  · rintro ⟨l, s, n, h⟩
    refine ⟨((hL w).mp l).resolve_right n, s, fun x lx h1 => h x ((hL x).mpr (.inl lx)) h1 fun e => nf x lx (e ▸ List.suffix_refl _)⟩
  · rintro ⟨l, s, h⟩
    refine ⟨(hL w).mpr (.inl l), s, fun e => nf w l (e ▸ List.suffix_refl _), fun x lx h1 h2 => h x (((hL x).mp lx).resolve_right h2) h1⟩
end
/-! a text grows by a letter -/
structure Grow (D D' : List Wd) (p : Wd) (c : Nat) : Prop where
  inn : ∀ u, Inner D' u ↔ Inner D u ∨ u <:+ p ++ [c]
  pre : ∀ u, Pre D' u ↔ Pre D u ∨ u = p ++ [c]
  hp : Pre D p
theorem suf_snoc_cases {u p : Wd} {c : Nat} (h : u <:+ p ++ [c]) : u = [] ∨ ∃ u', u = u' ++ [c] ∧ u' <:+ p := by
  rcases List.eq_nil_or_concat u with e | ⟨u', d, e⟩
  · exact .inl e
  · right
    rw [e, List.concat_eq_append] at h
    obtain ⟨q, s⟩ := suf_snoc h
    exact ⟨u', by rw [e, q, List.concat_eq_append], s⟩
theorem grow_of (D0 : List Wd) (p : Wd) (c : Nat) : Grow (D0 ++ [p]) (D0 ++ [p ++ [c]]) p c := by
  refine ⟨fun u => ?_, fun u => ?_, ⟨p, by simp, [], by simp⟩⟩
  · constructor
    · rintro ⟨t, m, x, y, e⟩
      rcases List.mem_append.mp m with m | m
      · exact .inl ⟨t, List.mem_append_left _ m, x, y, e⟩
      · rw [List.mem_singleton.mp m] at e
        rcases List.eq_nil_or_concat y with e2 | ⟨y', d, e2⟩
        · right
          rw [e2, List.append_nil] at e
          exact ⟨x, e.symm⟩
        · left
          rw [e2, List.concat_eq_append, ← List.append_assoc] at e
          exact ⟨p, by simp, x, y', (List.append_inj' e rfl).1⟩
    · rintro (⟨t, m, x, y, e⟩ | ⟨x, e⟩)
      · rcases List.mem_append.mp m with m | m
        · exact ⟨t, List.mem_append_left _ m, x, y, e⟩
        · rw [List.mem_singleton.mp m] at e
          exact ⟨p ++ [c], by simp, x, y ++ [c], by rw [e]; simp⟩
      · exact ⟨p ++ [c], by simp, x, [], by rw [← e]; simp⟩
  · constructor
    · rintro ⟨t, m, y, e⟩
      rcases List.mem_append.mp m with m | m
      · exact .inl ⟨t, List.mem_append_left _ m, y, e⟩
      · rw [List.mem_singleton.mp m] at e
        rcases List.eq_nil_or_concat y with e2 | ⟨y', d, e2⟩
        · right
          rw [e2, List.append_nil] at e
          exact e.symm
        · left
          rw [e2, List.concat_eq_append, ← List.append_assoc] at e
          exact ⟨p, by simp, y', (List.append_inj' e rfl).1⟩
    · rintro (⟨t, m, y, e⟩ | e)
      · rcases List.mem_append.mp m with m | m
        · exact ⟨t, List.mem_append_left _ m, y, e⟩
        · rw [List.mem_singleton.mp m] at e
          exact ⟨p ++ [c], by simp, y ++ [c], by rw [e]; simp⟩
      · exact ⟨p ++ [c], by simp, [], by rw [e]; simp⟩
section
variable {D D' : List Wd} {p : Wd} {c : Nat} (G : Grow D D' p c)
include G
theorem Grow.nil : LC D [] := by
  obtain ⟨t, m, y, e⟩ := G.hp
  exact .inl ⟨t, m, p ++ y, by rw [e]; simp⟩
theorem Grow.lcp : LC D p := .inl G.hp
theorem Grow.mono {w : Wd} (h : LC D w) : LC D' w := by
  rcases h with h | ⟨a, b, n, h1, h2⟩
  · exact .inl ((G.pre w).mpr (.inl h))
  · exact .inr ⟨a, b, n, (G.inn _).mpr (.inl h1), (G.inn _).mpr (.inl h2)⟩
theorem Grow.lc_new : LC D' (p ++ [c]) := .inl ((G.pre _).mpr (.inr rfl))
/-- the word stands already -/
theorem Grow.lc_old (i : Inner D (p ++ [c])) (w : Wd) : LC D' w ↔ LC D w ∨ w = p ++ [c] := by
  have inn : ∀ u, Inner D' u → Inner D u := fun u h => ((G.inn u).mp h).elim id fun s => i.suf s
  constructor
  · rintro (h | ⟨a, b, n, h1, h2⟩)
    · exact ((G.pre w).mp h).imp .inl id
    · exact .inl (.inr ⟨a, b, n, inn _ h1, inn _ h2⟩)
  · rintro (h | e)
    · exact G.mono h
    · exact e ▸ G.lc_new
/-- a word at the end of p that the letter follows somewhere is within such a longest word -/
theorem Grow.up : ∀ (n : Nat) {u : Wd}, p.length - u.length ≤ n → u <:+ p → Inner D (u ++ [c]) → ∃ q, LC D q ∧ u <:+ q ∧ q <:+ p ∧ Inner D (q ++ [c])
  | n, u, hn, s, i => by
    by_cases l : LC D u
    · exact ⟨u, l, List.suffix_refl _, s, i⟩
    · have ne : u ≠ p := fun e => l (e ▸ G.lcp)
      obtain ⟨a, ha⟩ := suf_cons s ne
      obtain ⟨t, mt, x, y, e⟩ := i
      have nx : x ≠ [] := fun z => l (.inl ⟨t, mt, [c] ++ y, by rw [e, z]; simp⟩)
      have ex := List.dropLast_concat_getLast nx
      have i2 : Inner D ((x.getLast nx :: u) ++ [c]) := ⟨t, mt, x.dropLast, y, by rw [e]; (conv => lhs; rw [← ex]); simp⟩
      have ea : a = x.getLast nx := Classical.byContradiction fun z => l (.inr ⟨a, _, z, G.hp.inner.suf ha, i2.left⟩)
      rw [← ea] at i2
      have hl := ha.length_le
      rw [List.length_cons] at hl
      match n, hn with
      | 0, hn => omega
      | n + 1, hn =>
        obtain ⟨q, h1, h2, h3, h4⟩ := Grow.up n (u := a :: u) (by rw [List.length_cons]; omega) ha i2
        exact ⟨q, h1, List.IsSuffix.trans ⟨[a], rfl⟩ h2, h3, h4⟩
/-- no word at the end of p is followed by the letter -/
theorem Grow.lc_none (h : ∀ u, u <:+ p → ¬ Inner D (u ++ [c])) (w : Wd) : LC D' w ↔ LC D w ∨ w = p ++ [c] := by
  constructor
  · rintro (h1 | ⟨a, b, n, h1, h2⟩)
    · exact ((G.pre w).mp h1).imp .inl id
    · have one : ∀ a b, a ≠ b → a :: w <:+ p ++ [c] → Inner D (b :: w) → LC D w := fun a b n h1 h2 => by
        have : w <:+ p ++ [c] := List.IsSuffix.trans ⟨[a], rfl⟩ h1
        rcases suf_snoc_cases this with e | ⟨w', e, s⟩
        · exact e ▸ G.nil
        · exact absurd (h2.suf ⟨[b], rfl⟩) (e ▸ h w' s)
      rcases (G.inn _).mp h1 with i1 | s1
      · rcases (G.inn _).mp h2 with i2 | s2
        · exact .inl (.inr ⟨a, b, n, i1, i2⟩)
        · exact .inl (one b a (Ne.symm n) s2 i1)
      · rcases (G.inn _).mp h2 with i2 | s2
        · exact .inl (one a b n s1 i2)
        · exact absurd (cons_suf_inj s1 s2) n
  · rintro (h | e)
    · exact G.mono h
    · exact e ▸ G.lc_new
/-- q is the longest one that the letter follows -/
theorem Grow.lc_some {q : Wd} (np : ¬ Inner D (p ++ [c])) (sq : q <:+ p) (iq : Inner D (q ++ [c])) (mx : ∀ u, u <:+ p → Inner D (u ++ [c]) → u <:+ q) (w : Wd) :
    LC D' w ↔ (LC D w ∨ w = q ++ [c]) ∨ w = p ++ [c] := by
  have qp : q ≠ p := fun e => np (e ▸ iq)
  constructor
  · rintro (h1 | ⟨a, b, n, h1, h2⟩)
    · exact ((G.pre w).mp h1).imp (fun h => .inl (.inl h)) id
    · have one : ∀ a b, a ≠ b → a :: w <:+ p ++ [c] → Inner D (b :: w) → ¬ Inner D (a :: w) → LC D w ∨ w = q ++ [c] := fun a b n h1 h2 h3 => by
        have : w <:+ p ++ [c] := List.IsSuffix.trans ⟨[a], rfl⟩ h1
        rcases suf_snoc_cases this with e | ⟨w', e, s⟩
        · exact .inl (e ▸ G.nil)
        · right
          subst e
          have s2 := mx w' s (h2.suf ⟨[b], rfl⟩)
          have s3 : a :: w' <:+ p := (suf_snoc (u := a :: w') (v := p) h1).2
          by_cases e2 : w' = q
          · rw [e2]
          · obtain ⟨a', ha'⟩ := suf_cons s2 e2
            have := cons_suf_inj (ha'.trans sq) s3
            subst this
            exact absurd (iq.suf (suf_app (y := [c]) ha')) h3
      rcases (G.inn _).mp h1 with i1 | s1
      · rcases (G.inn _).mp h2 with i2 | s2
        · exact .inl (.inl (.inr ⟨a, b, n, i1, i2⟩))
        · by_cases i2 : Inner D (b :: w)
          · exact .inl (.inl (.inr ⟨a, b, n, i1, i2⟩))
          · exact .inl (one b a (Ne.symm n) s2 i1 i2)
      · rcases (G.inn _).mp h2 with i2 | s2
        · by_cases i1 : Inner D (a :: w)
          · exact .inl (.inl (.inr ⟨a, b, n, i1, i2⟩))
          · exact .inl (one a b n s1 i2 i1)
        · exact absurd (cons_suf_inj s1 s2) n
  · rintro ((h | e) | e)
    · exact G.mono h
    · subst e
      by_cases l : LC D (q ++ [c])
      · exact G.mono l
      · obtain ⟨a, ha⟩ := suf_cons sq qp
        obtain ⟨t, mt, x, y, e⟩ := iq
        have nx : x ≠ [] := fun z => l (.inl ⟨t, mt, y, by rw [e, z]; simp⟩)
        have ex := List.dropLast_concat_getLast nx
        have i2 : Inner D ((x.getLast nx :: q) ++ [c]) := ⟨t, mt, x.dropLast, y, by rw [e]; (conv => lhs; rw [← ex]); simp⟩
        refine .inr ⟨a, x.getLast nx, fun z => ?_, (G.inn _).mpr (.inr (suf_app (y := [c]) ha)), (G.inn _).mpr (.inl i2)⟩
        have := (mx (a :: q) ha (z ▸ i2)).length_le
        rw [List.length_cons] at this
        omega
    · exact e ▸ G.lc_new
end
end Sam
set_option linter.all false
/-! The machine grown letter by letter. -/
namespace Sam
/-- the classes so far: how many, their edges, sizes and links -/
structure G where
  n : Nat
  ed : Nat → Nat → Option Nat
  sz : Nat → Nat
  lk : Nat → Option Nat
def up1 {α : Type} (f : Nat → α) (i : Nat) (v : α) : Nat → α := fun x => if x = i then v else f x
theorem up1_same {α : Type} {f : Nat → α} {i : Nat} {v : α} : up1 f i v i = v := if_pos rfl
theorem up1_ne {α : Type} {f : Nat → α} {i j : Nat} {v : α} (h : j ≠ i) : up1 f i v j = f j := if_neg h
def chn (lk : Nat → Option Nat) : Nat → Nat → List Nat
  | 0, _ => []
  | k + 1, s => s :: match lk s with
    | none => []
    | some t => chn lk k t
/-- a class, its link, and so on -/
def chain (g : G) (s : Nat) : List Nat := chn g.lk (g.sz s + 1) s
def addG (g : G) (size : Nat) (ed : Nat → Option Nat) (link : Option Nat) : G := ⟨g.n + 1, up1 g.ed g.n ed, up1 g.sz g.n size, up1 g.lk g.n link⟩
def setLk (g : G) (i : Nat) (t : Option Nat) : G := ⟨g.n, g.ed, g.sz, up1 g.lk i t⟩
def setEd (g : G) (c t : Nat) (xs : List Nat) : G := ⟨g.n, fun x d => if d = c ∧ x ∈ xs then some t else g.ed x d, g.sz, g.lk⟩
def redOf (g : G) (s c old : Nat) : List Nat := (chain g s).takeWhile fun x => decide (g.ed x c = some old)
def preOf (g : G) (s c : Nat) : List Nat := (chain g s).takeWhile fun x => decide (g.ed x c = none)
def nextOf (g : G) (s c : Nat) : Option Nat := ((chain g s).dropWhile fun x => decide (g.ed x c = none)).head?
def ledTo (g : G) (s c : Nat) : G × Nat := match g.ed s c with
  | none => (g, 0)
  | some old => if g.sz old = g.sz s + 1 then (g, old) else (setEd (setLk (addG g (g.sz s + 1) (g.ed old) (g.lk old)) old (some g.n)) c g.n (redOf g s c old), g.n)
def after (g : G) (s c : Nat) : G × Nat := match g.ed s c with
  | some _ => ledTo g s c
  | none =>
    let g2 := setEd (addG g (g.sz s + 1) (fun _ => none) (some 0)) c g.n (preOf g s c)
    match nextOf g s c with
    | none => (g2, g.n)
    | some q => (setLk (ledTo g2 q c).1 g.n (some (ledTo g2 q c).2), g.n)
/-- what the classes stand for -/
structure Inv (L : Wd → Prop) (g : G) (rep : Nat → Wd) : Prop where
  n0 : 0 < g.n
  r0 : rep 0 = []
  inj : ∀ i j, i < g.n → j < g.n → rep i = rep j → i = j
  lc : ∀ w, L w ↔ ∃ i, i < g.n ∧ rep i = w
  sz : ∀ i, i < g.n → g.sz i = (rep i).length
  ed : ∀ i, i < g.n → ∀ c j, g.ed i c = some j ↔ j < g.n ∧ Ext L (rep i ++ [c]) (rep j)
  lk : ∀ i, i < g.n → ∀ j, g.lk i = some j ↔ j < g.n ∧ Link L (rep i) (rep j)
section
variable {L : Wd → Prop} {g : G} {rep : Nat → Wd} (I : Inv L g rep)
include I
theorem Inv.mem {i : Nat} (h : i < g.n) : L (rep i) := (I.lc _).mpr ⟨i, h, rfl⟩
theorem Inv.dec {i j : Nat} (h : i < g.n) (e : g.lk i = some j) : j < g.n ∧ g.sz j < g.sz i ∧ rep j <:+ rep i ∧ rep j ≠ rep i := by
  obtain ⟨hj, l⟩ := (I.lk i h j).mp e
  refine ⟨hj, ?_, l.2.1, l.2.2.1⟩
  rw [I.sz i h, I.sz j hj]
  exact Nat.lt_of_le_of_ne l.2.1.length_le fun e => l.2.2.1 (l.2.1.eq_of_length e)
theorem Inv.lk_none {i : Nat} (h : i < g.n) (e : g.lk i = none) : rep i = [] := by
  refine Classical.byContradiction fun n => ?_
  obtain ⟨w, hw⟩ := link_ex (L := L) (I.r0 ▸ I.mem I.n0) _ n
  obtain ⟨j, hj, ej⟩ := (I.lc w).mp hw.1
  have := (I.lk i h j).mpr ⟨hj, ej ▸ hw⟩
  rw [e] at this
  cases this
theorem Inv.chn_fuel : ∀ (k k' : Nat) {s : Nat}, s < g.n → g.sz s < k → g.sz s < k' → chn g.lk k s = chn g.lk k' s
  | 0, _, _, _, h, _ => absurd h (Nat.not_lt_zero _)
  | _, 0, _, _, _, h => absurd h (Nat.not_lt_zero _)
  | k + 1, k' + 1, s, hs, h1, h2 => by
    rw [chn, chn]
    cases e : g.lk s with
    | none => rfl
    | some t =>
      obtain ⟨ht, hz, _⟩ := I.dec hs e
      show s :: chn g.lk k t = s :: chn g.lk k' t
      rw [Inv.chn_fuel k k' ht (by omega) (by omega)]
theorem Inv.chain_eq {s : Nat} (h : s < g.n) : chain g s = s :: match g.lk s with
    | none => []
    | some t => chain g t := by
  unfold chain
  rw [chn]
  cases e : g.lk s with
  | none => rfl
  | some t =>
    obtain ⟨ht, hz, _⟩ := I.dec h e
    show s :: chn g.lk (g.sz s) t = s :: chn g.lk (g.sz t + 1) t
    rw [I.chn_fuel _ _ ht hz (Nat.lt_succ_self _)]
/-- the chain: all classes whose longest words stand at the end of s's, longest first -/
theorem Inv.chain_ok : ∀ (k : Nat) {s : Nat}, s < g.n → g.sz s ≤ k → (∀ j, j ∈ chain g s ↔ j < g.n ∧ rep j <:+ rep s) ∧ (chain g s).Pairwise (fun a b => rep b <:+ rep a ∧ rep b ≠ rep a)
  | k, s, hs, hk => by
    rw [I.chain_eq hs]
    cases e : g.lk s with
    | none =>
      have z := I.lk_none hs e
      refine ⟨fun j => ?_, by simp⟩
      rw [List.mem_singleton]
      constructor
      · rintro rfl
        exact ⟨hs, List.suffix_refl _⟩
      · rintro ⟨hj, s2⟩
        rw [z] at s2
        exact I.inj j s hj hs (by rw [List.suffix_nil.mp s2, z])
    | some t =>
      obtain ⟨ht, hz, h1, h2⟩ := I.dec hs e
      have link := ((I.lk s hs t).mp e).2
      match k, hk with
      | 0, hk => omega
      | k + 1, hk =>
        obtain ⟨c1, c2⟩ := Inv.chain_ok k ht (by omega)
        refine ⟨fun j => ?_, ?_⟩
        · show j ∈ s :: chain g t ↔ _
          rw [List.mem_cons, c1]
          constructor
          · rintro (rfl | ⟨hj, q⟩)
            · exact ⟨hs, List.suffix_refl _⟩
            · exact ⟨hj, q.trans h1⟩
          · rintro ⟨hj, q⟩
            by_cases e2 : rep j = rep s
            · exact .inl (I.inj j s hj hs e2)
            · exact .inr ⟨hj, link.2.2.2 _ (I.mem hj) q e2⟩
        · show (s :: chain g t).Pairwise _
          rw [List.pairwise_cons]
          refine ⟨fun j hj => ?_, c2⟩
          obtain ⟨hj2, q⟩ := (c1 j).mp hj
          refine ⟨q.trans h1, fun e2 => h2 (suf_antisymm h1 (e2 ▸ q))⟩
theorem Inv.mem_chain {s j : Nat} (h : s < g.n) : j ∈ chain g s ↔ j < g.n ∧ rep j <:+ rep s := (I.chain_ok _ h (Nat.le_refl _)).1 j
theorem Inv.chain_pw {s : Nat} (h : s < g.n) : (chain g s).Pairwise (fun a b => rep b <:+ rep a ∧ rep b ≠ rep a) := (I.chain_ok _ h (Nat.le_refl _)).2
end
theorem mem_tw {α : Type} {R : α → α → Prop} {p : α → Bool} : ∀ {l : List α}, l.Pairwise R → (∀ x y, R x y → p y = true → p x = true) → ∀ x, x ∈ l.takeWhile p ↔ x ∈ l ∧ p x = true
  | [], _, _, x => by simp
  | a :: l, h, m, x => by
    rw [List.pairwise_cons] at h
    by_cases c : p a = true
    · rw [List.takeWhile_cons_of_pos c, List.mem_cons, List.mem_cons, mem_tw h.2 m x]
      constructor
      · rintro (e | ⟨h1, h2⟩)
        · exact ⟨.inl e, e ▸ c⟩
        · exact ⟨.inr h1, h2⟩
      · rintro ⟨e | h1, h2⟩
        · exact .inl e
        · exact .inr ⟨h1, h2⟩
    · rw [List.takeWhile_cons_of_neg c]
      constructor
      · intro z; cases z
      · rintro ⟨h1, h2⟩
        rcases List.mem_cons.mp h1 with e | h3
        · exact absurd (e ▸ h2) c
        · exact absurd (m a x (h.1 x h3) h2) c
theorem dw_none {α : Type} {p : α → Bool} : ∀ {l : List α}, (l.dropWhile p).head? = none → ∀ x ∈ l, p x = true
  | [], _, x, h => by cases h
  | a :: l, h, x, hx => by
    by_cases c : p a = true
    · rw [List.dropWhile_cons_of_pos c] at h
      rcases List.mem_cons.mp hx with e | m
      · exact e ▸ c
      · exact dw_none h x m
    · rw [List.dropWhile_cons_of_neg c] at h
      cases h
theorem dw_some {α : Type} {R : α → α → Prop} {p : α → Bool} : ∀ {l : List α} {q : α}, l.Pairwise R → (l.dropWhile p).head? = some q → q ∈ l ∧ p q = false ∧ ∀ x ∈ l, p x = false → x = q ∨ R q x
  | [], _, _, h => by cases h
  | a :: l, q, hp, h => by
    rw [List.pairwise_cons] at hp
    by_cases c : p a = true
    · rw [List.dropWhile_cons_of_pos c] at h
      obtain ⟨h1, h2, h3⟩ := dw_some hp.2 h
      refine ⟨List.mem_cons_of_mem _ h1, h2, fun x hx hn => ?_⟩
      rcases List.mem_cons.mp hx with e | m
      · rw [e, c] at hn; cases hn
      · exact h3 x m hn
    · rw [List.dropWhile_cons_of_neg c] at h
      have e : a = q := by simpa using h
      subst e
      refine ⟨List.mem_cons_self .., by simpa using c, fun x hx _ => ?_⟩
      rcases List.mem_cons.mp hx with e | m
      · exact .inl e
      · exact .inr (hp.1 x m)
section
variable {D D' : List Wd} {p : Wd} {c : Nat} {g : G} {rep : Nat → Wd}
theorem Inv.ed_inner (I : Inv (LC D) g rep) {i d : Nat} (h : i < g.n) : (∃ j, g.ed i d = some j) ↔ Inner D (rep i ++ [d]) := by
  constructor
  · rintro ⟨j, e⟩
    exact ((I.ed i h d j).mp e).2.inner
  · intro i2
    obtain ⟨v, hv⟩ := i2.ext
    obtain ⟨j, hj, e⟩ := (I.lc v).mp hv.1
    exact ⟨j, (I.ed i h d j).mpr ⟨hj, e ▸ hv⟩⟩
theorem Inv.ed_none (I : Inv (LC D) g rep) {i d : Nat} (h : i < g.n) : g.ed i d = none ↔ ¬ Inner D (rep i ++ [d]) := by
  rw [← I.ed_inner h]
  cases e : g.ed i d with
  | none => simp
  | some j => simp
/-- the classes at the end of q's word that lead to old's -/
theorem Inv.red (I : Inv (LC D) g rep) {q old : Nat} (hq : q < g.n) (e : g.ed q c = some old) (x : Nat) : x ∈ redOf g q c old ↔ x < g.n ∧ rep x <:+ rep q ∧ g.ed x c = some old := by
  have eq := ((I.ed q hq c old).mp e).2
  have := mem_tw (p := fun x => decide (g.ed x c = some old)) (R := fun a b => (rep b <:+ rep a ∧ rep b ≠ rep a) ∧ a ∈ chain g q ∧ b ∈ chain g q) (l := chain g q) ?_ ?_ x
  · unfold redOf
    rw [this, I.mem_chain hq, decide_eq_true_eq, and_assoc]
  · exact (I.chain_pw hq).imp_of_mem fun ha hb h => ⟨h, ha, hb⟩
  · rintro a b ⟨⟨h1, _⟩, ha, hb⟩ hp
    obtain ⟨an, as⟩ := (I.mem_chain hq).mp ha
    obtain ⟨bn, bs⟩ := (I.mem_chain hq).mp hb
    have h2 := (I.ed b bn c old).mp (of_decide_eq_true hp)
    exact decide_eq_true ((I.ed a an c old).mpr ⟨h2.1, h2.2.up (suf_app h1) ((suf_app as).trans eq.2.1)⟩)
theorem Inv.pre (I : Inv (LC D) g rep) {s : Nat} (hs : s < g.n) (x : Nat) : x ∈ preOf g s c ↔ x < g.n ∧ rep x <:+ rep s ∧ ¬ Inner D (rep x ++ [c]) := by
  have := mem_tw (p := fun x => decide (g.ed x c = none)) (R := fun a b => (rep b <:+ rep a ∧ rep b ≠ rep a) ∧ a ∈ chain g s ∧ b ∈ chain g s) (l := chain g s) ?_ ?_ x
  · unfold preOf
    rw [this, I.mem_chain hs, decide_eq_true_eq, and_assoc]
    constructor
    · rintro ⟨h1, h2, h3⟩
      exact ⟨h1, h2, (I.ed_none h1).mp h3⟩
    · rintro ⟨h1, h2, h3⟩
      exact ⟨h1, h2, (I.ed_none h1).mpr h3⟩
  · exact (I.chain_pw hs).imp_of_mem fun ha hb h => ⟨h, ha, hb⟩
  · rintro a b ⟨⟨h1, _⟩, ha, hb⟩ hp
    obtain ⟨an, as⟩ := (I.mem_chain hs).mp ha
    obtain ⟨bn, bs⟩ := (I.mem_chain hs).mp hb
    exact decide_eq_true ((I.ed_none an).mpr fun i => (I.ed_none bn).mp (of_decide_eq_true hp) (i.suf (suf_app h1)))
end
end Sam
set_option linter.all false
/-! A letter more: the classes stay right. -/
namespace Sam
theorem lc_more {L L' : Wd → Prop} {n : Nat} {rep : Nat → Wd} {m : Wd} (lc : ∀ w, L w ↔ ∃ i, i < n ∧ rep i = w) (hL : ∀ w, L' w ↔ L w ∨ w = m) (w : Wd) : L' w ↔ ∃ i, i < n + 1 ∧ up1 rep n m i = w := by
  rw [hL, lc]
  constructor
  · rintro (⟨i, h, e⟩ | e)
    · exact ⟨i, by omega, by rw [up1_ne (by omega)]; exact e⟩
    · exact ⟨n, by omega, by rw [up1_same, e]⟩
  · rintro ⟨i, h, e⟩
    by_cases z : i = n
    · rw [z, up1_same] at e
      exact .inr e.symm
    · rw [up1_ne z] at e
      exact .inl ⟨i, by omega, e⟩
theorem inj_more {L : Wd → Prop} {n : Nat} {rep : Nat → Wd} {m : Wd} (lc : ∀ w, L w ↔ ∃ i, i < n ∧ rep i = w) (inj : ∀ i j, i < n → j < n → rep i = rep j → i = j) (nm : ¬ L m) (i j : Nat) (hi : i < n + 1) (hj : j < n + 1)
    (e : up1 rep n m i = up1 rep n m j) : i = j := by
  by_cases zi : i = n
  · by_cases zj : j = n
    · rw [zi, zj]
    · rw [zi, up1_same, up1_ne zj] at e
      exact absurd ((lc m).mpr ⟨j, by omega, e.symm⟩) nm
  · by_cases zj : j = n
    · rw [zj, up1_same, up1_ne zi] at e
      exact absurd ((lc m).mpr ⟨i, by omega, e⟩) nm
    · rw [up1_ne zi, up1_ne zj] at e
      exact inj i j (by omega) (by omega) e
/-- what a step gives: the new classes, the class of the longer beginning -/
def Step (D' : List Wd) (g : G) (rep : Nat → Wd) (w : Wd) (r : G × Nat) : Prop :=
  ∃ rep' : Nat → Wd, Inv (LC D') r.1 rep' ∧ r.2 < r.1.n ∧ rep' r.2 = w ∧ g.n ≤ r.1.n ∧ ∀ i, i < g.n → rep' i = rep i
section
variable {D D' : List Wd} {p : Wd} {c : Nat} {g : G} {rep : Nat → Wd}
theorem step_old (I : Inv (LC D) g rep) (Gr : Grow D D' p c) {s : Nat} (hs : s < g.n) (es : rep s = p) (i0 : Inner D (p ++ [c])) : Step D' g rep (p ++ [c]) (ledTo g s c) := by
  obtain ⟨old, eo⟩ := (I.ed_inner (i := s) (d := c) hs).mpr (es ▸ i0)
  obtain ⟨ho, hm⟩ := (I.ed s hs c old).mp eo
  rw [es] at hm
  have hL := Gr.lc_old i0
  unfold ledTo
  rw [eo]
  show Step D' g rep (p ++ [c]) (if g.sz old = g.sz s + 1 then _ else _)
  have so := I.sz old ho
  have ss := I.sz s hs
  rw [es] at ss
  by_cases l : LC D (p ++ [c])
  · have e := hm.of_mem l
    rw [if_pos (by rw [so, ss, e]; simp)]
    have eL : LC D' = LC D := funext fun w => propext ((hL w).trans ⟨fun h => h.elim id fun z => z ▸ l, .inl⟩)
    exact ⟨rep, by rw [eL]; exact I, ho, e, Nat.le_refl _, fun _ _ => rfl⟩
  · have vm := split_ne hm l hL
    rw [if_neg (fun z => vm (by
      have := hm.2.1.eq_of_length (by rw [so, ss] at z; simp; omega)
      exact this.symm))]
    refine ⟨up1 rep g.n (p ++ [c]), ⟨Nat.succ_pos _, ?_, inj_more I.lc I.inj l, lc_more I.lc hL, ?_, ?_, ?_⟩, Nat.lt_succ_self _, up1_same, Nat.le_succ _, fun i h => up1_ne (by omega)⟩
    · have := I.n0
      rw [up1_ne (by omega)]
      exact I.r0
    · intro i hi
      have hi2 : i < g.n + 1 := hi
      show up1 g.sz g.n (g.sz s + 1) i = _
      by_cases z : i = g.n
      · rw [z, up1_same, up1_same, ss]
        simp
      · rw [up1_ne z, up1_ne z]
        exact I.sz i (by omega)
    · intro i hi d j
      have hi2 : i < g.n + 1 := hi
      show (if d = c ∧ i ∈ redOf g s c old then some g.n else up1 g.ed g.n (g.ed old) i d) = some j ↔ j < g.n + 1 ∧ _
      by_cases z : i = g.n
      · rw [if_neg (fun q => by have := ((I.red hs eo i).mp q.2).1; omega), z, up1_same, up1_same, I.ed old ho d j, ← ext_app hm]
        constructor
        · rintro ⟨hj, e⟩
          refine ⟨by omega, ?_⟩
          rw [up1_ne (by omega)]
          refine (split_ext_old hm l hL fun q => l (q ▸ I.mem hj)).mpr ⟨e, fun q => ?_⟩
          have := q.1.length_le
          simp at this
        · rintro ⟨hj, e⟩
          by_cases zj : j = g.n
          · rw [zj, up1_same] at e
            have := e.2.1.length_le
            simp at this
          · rw [up1_ne zj] at e
            exact ⟨by omega, ((split_ext_old hm l hL fun q => l (q ▸ I.mem (by omega))).mp e).1⟩
      · have hi3 : i < g.n := by omega
        rw [up1_ne z, up1_ne z]
        have key : (d = c ∧ i ∈ redOf g s c old) ↔ (rep i ++ [d]) <:+ (p ++ [c]) ∧ Ext (LC D) (rep i ++ [d]) (rep old) := by
          rw [I.red hs eo i, es]
          constructor
          · rintro ⟨rfl, _, q, e⟩
            exact ⟨suf_app q, ((I.ed i hi3 _ old).mp e).2⟩
          · rintro ⟨q, e⟩
            obtain ⟨rfl, q2⟩ := suf_snoc q
            exact ⟨rfl, hi3, q2, (I.ed i hi3 _ old).mpr ⟨ho, e⟩⟩
        by_cases zj : j = g.n
        · rw [zj, up1_same, split_ext_new hm l hL, ← key]
          by_cases q : d = c ∧ i ∈ redOf g s c old
          · rw [if_pos q]
            exact ⟨fun _ => ⟨by omega, q⟩, fun _ => rfl⟩
          · rw [if_neg q]
            exact ⟨fun e => absurd ((I.ed i hi3 d _).mp e).1 (by omega), fun e => absurd e.2 q⟩
        · rw [up1_ne zj]
          by_cases hj : j < g.n
          · rw [split_ext_old hm l hL fun q => l (q ▸ I.mem hj)]
            have inj : rep j = rep old ↔ j = old := ⟨I.inj j old hj ho, fun e => e ▸ rfl⟩
            by_cases q : d = c ∧ i ∈ redOf g s c old
            · rw [if_pos q]
              have q2 := key.mp q
              refine ⟨fun e => absurd (Option.some.inj e).symm zj, fun e => absurd ⟨q2.1, ?_⟩ e.2.2⟩
              exact e.2.1.uniq q2.2
            · rw [if_neg q, I.ed i hi3 d j]
              refine ⟨fun e => ⟨by omega, e.2, fun q2 => q (key.mpr ⟨q2.1, q2.2 ▸ e.2⟩)⟩, fun e => ⟨hj, e.2.1⟩⟩
          · refine ⟨fun e => ?_, fun e => absurd e.1 (by omega)⟩
            by_cases q : d = c ∧ i ∈ redOf g s c old
            · rw [if_pos q] at e
              exact absurd (Option.some.inj e).symm zj
            · rw [if_neg q] at e
              exact absurd ((I.ed i hi3 d _).mp e).1 hj
    · intro i hi j
      have hi2 : i < g.n + 1 := hi
      show up1 (up1 g.lk g.n (g.lk old)) old (some g.n) i = some j ↔ j < g.n + 1 ∧ _
      have hne : old ≠ g.n := by omega
      by_cases z : i = old
      · rw [z, up1_same, up1_ne hne]
        rw [split_link_v hm l hL]
        constructor
        · intro e
          have e2 := (Option.some.inj e)
          rw [← e2, up1_same]
          exact ⟨by omega, rfl⟩
        · rintro ⟨hj, e⟩
          by_cases zj : j = g.n
          · rw [zj]
          · rw [up1_ne zj] at e
            exact absurd (e ▸ I.mem (by omega)) l
      · rw [up1_ne z]
        by_cases zi : i = g.n
        · rw [zi, up1_same, up1_same, split_link_new hm l hL, I.lk old ho j]
          constructor
          · rintro ⟨hj, e⟩
            exact ⟨by omega, by rw [up1_ne (by omega)]; exact e⟩
          · rintro ⟨hj, e⟩
            by_cases zj : j = g.n
            · rw [zj, up1_same] at e
              exact absurd e.1 l
            · rw [up1_ne zj] at e
              exact ⟨by omega, e⟩
        · have hi3 : i < g.n := by omega
          rw [up1_ne zi, up1_ne zi, split_link_old hm l hL (I.mem hi3) (fun e => z (I.inj i old hi3 ho e)), I.lk i hi3 j]
          constructor
          · rintro ⟨hj, e⟩
            exact ⟨by omega, by rw [up1_ne (by omega)]; exact e⟩
          · rintro ⟨hj, e⟩
            by_cases zj : j = g.n
            · rw [zj, up1_same] at e
              exact absurd e.1 l
            · rw [up1_ne zj] at e
              exact ⟨by omega, e⟩
/-- the letter's class is new, and linked to a class that stands -/
theorem step_fresh (I : Inv (LC D) g rep) (Gr : Grow D D' p c) {s r : Nat} (hs : s < g.n) (es : rep s = p) (np : ¬ Inner D (p ++ [c])) (hr : r < g.n) (hL : ∀ w, LC D' w ↔ LC D w ∨ w = p ++ [c]) (sr : rep r <:+ p ++ [c])
    (mx : ∀ u, u <:+ p → Inner D (u ++ [c]) → u ++ [c] <:+ rep r) (lk : Nat → Option Nat) (l1 : lk g.n = some r) (l2 : ∀ i, i < g.n → lk i = g.lk i) :
    Step D' g rep (p ++ [c]) (⟨g.n + 1, (setEd (addG g (g.sz s + 1) (fun _ => none) (some 0)) c g.n (preOf g s c)).ed, up1 g.sz g.n (g.sz s + 1), lk⟩, g.n) := by
  have nf : ∀ w, LC D w → ¬ p ++ [c] <:+ w := fun w lw h => np (lw.inner.suf h)
  have nl : ¬ LC D (p ++ [c]) := fun l => np l.inner
  have ss := I.sz s hs
  rw [es] at ss
  refine ⟨up1 rep g.n (p ++ [c]), ⟨Nat.succ_pos _, ?_, inj_more I.lc I.inj nl, lc_more I.lc hL, ?_, ?_, ?_⟩, Nat.lt_succ_self _, up1_same, Nat.le_succ _, fun i h => up1_ne (by omega)⟩
  · have := I.n0
    rw [up1_ne (by omega)]
    exact I.r0
  · intro i hi
    have hi2 : i < g.n + 1 := hi
    show up1 g.sz g.n (g.sz s + 1) i = _
    by_cases z : i = g.n
    · rw [z, up1_same, up1_same, ss]
      simp
    · rw [up1_ne z, up1_ne z]
      exact I.sz i (by omega)
  · intro i hi d j
    have hi2 : i < g.n + 1 := hi
    show (if d = c ∧ i ∈ preOf g s c then some g.n else up1 g.ed g.n (fun _ => none) i d) = some j ↔ j < g.n + 1 ∧ _
    by_cases z : i = g.n
    · rw [if_neg (fun q => by have := ((I.pre hs i).mp q.2).1; omega), z, up1_same, up1_same]
      refine ⟨(fun e => by cases e), fun ⟨hj, e⟩ => ?_⟩
      by_cases zj : j = g.n
      · rw [zj, up1_same] at e
        have := e.2.1.length_le
        simp at this
      · rw [up1_ne zj] at e
        have hj2 : j < g.n := by omega
        have := ((fresh_ext_old nf hL fun q => nl (q ▸ I.mem hj2)).mp e).inner
        exact absurd this.left np
    · have hi3 : i < g.n := by omega
      rw [up1_ne z, up1_ne z]
      have key : (d = c ∧ i ∈ preOf g s c) ↔ (rep i ++ [d]) <:+ (p ++ [c]) ∧ ∀ w, LC D w → rep i ++ [d] <:+ w → ¬ w <:+ p ++ [c] := by
        rw [I.pre hs i, es]
        constructor
        · rintro ⟨rfl, _, q, e⟩
          exact ⟨suf_app q, fun w lw h _ => e (lw.inner.suf h)⟩
        · rintro ⟨q, e⟩
          obtain ⟨rfl, q2⟩ := suf_snoc q
          exact ⟨rfl, hi3, q2, fun h => e _ (I.mem hr) (mx _ q2 h) sr⟩
      by_cases zj : j = g.n
      · rw [zj, up1_same, fresh_ext_new nf hL, ← key]
        by_cases q : d = c ∧ i ∈ preOf g s c
        · rw [if_pos q]
          exact ⟨fun _ => ⟨by omega, q⟩, fun _ => rfl⟩
        · rw [if_neg q]
          exact ⟨fun e => absurd ((I.ed i hi3 d _).mp e).1 (by omega), fun e => absurd e.2 q⟩
      · rw [up1_ne zj]
        by_cases hj : j < g.n
        · rw [fresh_ext_old nf hL fun q => nl (q ▸ I.mem hj)]
          by_cases q : d = c ∧ i ∈ preOf g s c
          · rw [if_pos q]
            refine ⟨fun e => absurd (Option.some.inj e).symm zj, fun e => ?_⟩
            have := ((I.pre hs i).mp q.2).2.2
            exact absurd (q.1 ▸ e.2.inner) this
          · rw [if_neg q, I.ed i hi3 d j]
            exact ⟨fun e => ⟨by omega, e.2⟩, fun e => ⟨hj, e.2⟩⟩
        · refine ⟨fun e => ?_, fun e => absurd e.1 (by omega)⟩
          by_cases q : d = c ∧ i ∈ preOf g s c
          · rw [if_pos q] at e
            exact absurd (Option.some.inj e).symm zj
          · rw [if_neg q] at e
            exact absurd ((I.ed i hi3 d _).mp e).1 hj
  · intro i hi j
    have hi2 : i < g.n + 1 := hi
    show lk i = some j ↔ j < g.n + 1 ∧ _
    by_cases z : i = g.n
    · have key : Link (LC D') (p ++ [c]) (rep r) := by
        refine (fresh_link_new nf hL).mpr ⟨I.mem hr, sr, fun x lx h => ?_⟩
        rcases suf_snoc_cases h with e | ⟨u, e, q⟩
        · exact e ▸ List.nil_suffix
        · exact e ▸ mx u q (e ▸ lx.inner)
      rw [z, l1, up1_same]
      constructor
      · intro e
        have e2 := Option.some.inj e
        rw [← e2, up1_ne (by omega)]
        exact ⟨by omega, key⟩
      · rintro ⟨hj, e⟩
        have e2 := key.uniq e
        by_cases zj : j = g.n
        · rw [zj, up1_same] at e2
          exact absurd (e2 ▸ I.mem hr) nl
        · rw [up1_ne zj] at e2
          rw [I.inj r j hr (by omega) e2]
    · have hi3 : i < g.n := by omega
      rw [l2 i hi3, up1_ne z, fresh_link_old nf hL (I.mem hi3), I.lk i hi3 j]
      constructor
      · rintro ⟨hj, e⟩
        exact ⟨by omega, by rw [up1_ne (by omega)]; exact e⟩
      · rintro ⟨hj, e⟩
        by_cases zj : j = g.n
        · rw [zj, up1_same] at e
          exact absurd e.1 nl
        · rw [up1_ne zj] at e
          exact ⟨by omega, e⟩
end
end Sam
set_option linter.all false
namespace Sam
theorem tw_congr {α : Type} {p q : α → Bool} : ∀ {l : List α}, (∀ x ∈ l, p x = q x) → l.takeWhile p = l.takeWhile q
  | [], _ => rfl
  | a :: l, h => by
    have h1 := h a (List.mem_cons_self ..)
    have h2 := tw_congr (l := l) fun x m => h x (List.mem_cons_of_mem _ m)
    simp only [List.takeWhile, h1, h2]
section
variable {D D' : List Wd} {p : Wd} {c : Nat} {g : G} {rep : Nat → Wd}
theorem Inv.chn_congr {L : Wd → Prop} (I : Inv L g rep) {lk : Nat → Option Nat} (h : ∀ i, i < g.n → lk i = g.lk i) : ∀ (k : Nat) {s : Nat}, s < g.n → chn lk k s = chn g.lk k s
  | 0, _, _ => rfl
  | k + 1, s, hs => by
    rw [chn, chn, h s hs]
    cases e : g.lk s with
    | none => rfl
    | some t => show s :: chn lk k t = s :: chn g.lk k t; rw [Inv.chn_congr I h k (I.dec hs e).1]
/-- the letter's class is new, and a class is split -/
theorem step_both (I : Inv (LC D) g rep) (Gr : Grow D D' p c) {s q old : Nat} (hs : s < g.n) (es : rep s = p) (np : ¬ Inner D (p ++ [c])) (hq : q < g.n) (sq : rep q <:+ p) (eo : g.ed q c = some old) (nl : ¬ LC D (rep q ++ [c]))
    (mx : ∀ u, u <:+ p → Inner D (u ++ [c]) → u <:+ rep q) (ed : Nat → Nat → Option Nat) (lk : Nat → Option Nat)
    (e1 : ∀ i, i < g.n → ∀ d, ed i d = if d = c ∧ i ∈ redOf g q c old then some (g.n + 1) else if d = c ∧ i ∈ preOf g s c then some g.n else g.ed i d)
    (e2 : ∀ d, ed g.n d = none) (e3 : ∀ d, ed (g.n + 1) d = if d = c ∧ old ∈ preOf g s c then some g.n else g.ed old d)
    (k1 : ∀ i, i < g.n → lk i = if i = old then some (g.n + 1) else g.lk i) (k2 : lk g.n = some (g.n + 1)) (k3 : lk (g.n + 1) = g.lk old) :
    Step D' g rep (p ++ [c]) (⟨g.n + 1 + 1, ed, up1 (up1 g.sz g.n (g.sz s + 1)) (g.n + 1) (g.sz q + 1), lk⟩, g.n) := by
  obtain ⟨ho, hm⟩ := (I.ed q hq c old).mp eo
  have iq := hm.inner
  have nf0 : ∀ w, LC D w → ¬ p ++ [c] <:+ w := fun w lw h => np (lw.inner.suf h)
  have nlf : ¬ LC D (p ++ [c]) := fun l => np l.inner
  have mf : rep q ++ [c] ≠ p ++ [c] := fun e => np (e ▸ iq)
  have sm : rep q ++ [c] <:+ p ++ [c] := suf_app sq
  have hL := Gr.lc_some np sq iq mx
  have hL1 : ∀ w, (fun w => LC D w ∨ w = rep q ++ [c]) w ↔ LC D w ∨ w = rep q ++ [c] := fun w => Iff.rfl
  have nf : ∀ w, (fun w => LC D w ∨ w = rep q ++ [c]) w → ¬ p ++ [c] <:+ w := by
    rintro w (lw | e) h
    · exact nf0 w lw h
    · exact np (iq.suf (e ▸ h))
  have hL2 : ∀ w, LC D' w ↔ (fun w => LC D w ∨ w = rep q ++ [c]) w ∨ w = p ++ [c] := hL
  have ss := I.sz s hs
  rw [es] at ss
  have sz_q := I.sz q hq
  -- the new words' edges and links
  have Em : ∀ u, Ext (LC D') u (rep q ++ [c]) ↔ u <:+ rep q ++ [c] ∧ Ext (LC D) u (rep old) := fun u => (fresh_ext_old nf hL2 mf).trans (split_ext_new hm nl hL1)
  have Ez : ∀ u z, LC D z → (Ext (LC D') u z ↔ Ext (LC D) u z ∧ ¬ (u <:+ rep q ++ [c] ∧ z = rep old)) := fun u z lz =>
    (fresh_ext_old nf hL2 fun e => nlf (e ▸ lz)).trans (split_ext_old hm nl hL1 fun e => nl (e ▸ lz))
  have Ef : ∀ u, Ext (LC D') u (p ++ [c]) ↔ u <:+ p ++ [c] ∧ ∀ w, (LC D w ∨ w = rep q ++ [c]) → u <:+ w → ¬ w <:+ p ++ [c] := fun u => fresh_ext_new nf hL2
  have lc2 : ∀ w, (fun w => LC D w ∨ w = p ++ [c]) w ↔ ∃ i, i < g.n + 1 ∧ up1 rep g.n (p ++ [c]) i = w := lc_more I.lc (fun w => Iff.rfl)
  have inj2 := inj_more I.lc I.inj nlf
  have nl2 : ¬ (fun w => LC D w ∨ w = p ++ [c]) (rep q ++ [c]) := fun h => h.elim nl mf
  have R0 : ∀ i, i < g.n → up1 (up1 rep g.n (p ++ [c])) (g.n + 1) (rep q ++ [c]) i = rep i := fun i h => by rw [up1_ne (by omega), up1_ne (by omega)]
  have Rn : up1 (up1 rep g.n (p ++ [c])) (g.n + 1) (rep q ++ [c]) g.n = p ++ [c] := by rw [up1_ne (by omega), up1_same]
  have Rm : up1 (up1 rep g.n (p ++ [c])) (g.n + 1) (rep q ++ [c]) (g.n + 1) = rep q ++ [c] := up1_same
  refine ⟨up1 (up1 rep g.n (p ++ [c])) (g.n + 1) (rep q ++ [c]), ⟨Nat.succ_pos _, ?_, inj_more lc2 inj2 nl2, lc_more lc2 (fun w => ?_), ?_, ?_, ?_⟩, (by show g.n < g.n + 1 + 1; omega), Rn, (by show g.n ≤ g.n + 1 + 1; omega), R0⟩
  · rw [R0 0 I.n0]
    exact I.r0
  · rw [hL w]
    constructor
    · rintro ((h | h) | h)
      · exact .inl (.inl h)
      · exact .inr h
      · exact .inl (.inr h)
    · rintro ((h | h) | h)
      · exact .inl (.inl h)
      · exact .inr h
      · exact .inl (.inr h)
  · intro i hi
    have hi2 : i < g.n + 1 + 1 := hi
    show up1 (up1 g.sz g.n (g.sz s + 1)) (g.n + 1) (g.sz q + 1) i = _
    by_cases z : i = g.n + 1
    · rw [z, up1_same, up1_same, sz_q]
      simp
    · rw [up1_ne z, up1_ne z]
      by_cases z2 : i = g.n
      · rw [z2, up1_same, up1_same, ss]
        simp
      · rw [up1_ne z2, up1_ne z2]
        exact I.sz i (by omega)
  · intro i hi d j
    have hi2 : i < g.n + 1 + 1 := hi
    show ed i d = some j ↔ j < g.n + 1 + 1 ∧ _
    by_cases z : i = g.n + 1
    · -- the class that was split off
      rw [z, e3, Rm]
      have key : (d = c ∧ old ∈ preOf g s c) ↔ (rep q ++ [c] ++ [d]) <:+ p ++ [c] := by
        rw [I.pre hs old, es]
        constructor
        · rintro ⟨rfl, _, h, _⟩
          exact suf_app (hm.2.1.trans h)
        · intro h
          obtain ⟨rfl, h2⟩ := suf_snoc h
          have h3 : rep old <:+ p := by
            obtain ⟨t, mt, y, e⟩ := Gr.hp
            obtain ⟨x, ex⟩ := h2
            obtain ⟨x', ex'⟩ := hm.occ mt (x := x) (y := y) (by rw [e, ← ex])
            exact ⟨x', (List.append_inj' (ex'.symm.trans e) rfl).1⟩
          refine ⟨rfl, ho, h3, fun i2 => ?_⟩
          have := (mx _ h2 (hm.inner_app.mpr i2)).length_le
          simp at this
          omega
      by_cases zm : j = g.n + 1
      · rw [zm, Rm, Em]
        refine ⟨fun e => ?_, fun e => ?_⟩
        · by_cases k : d = c ∧ old ∈ preOf g s c
          · rw [if_pos k] at e
            have := Option.some.inj e
            omega
          · rw [if_neg k] at e
            have := ((I.ed old ho d _).mp e).1
            omega
        · have := e.2.1.length_le
          simp at this
      · by_cases zn : j = g.n
        · rw [zn, Rn, Ef]
          constructor
          · intro e
            by_cases k : d = c ∧ old ∈ preOf g s c
            · refine ⟨by omega, key.mp k, fun w lw h1 h2 => ?_⟩
              have iw : Inner D w := lw.elim LC.inner fun e => e ▸ iq
              have h3 := key.mp k
              rw [k.1] at h1 h3
              have := (mx _ (suf_snoc h3).2 (iw.suf h1)).length_le
              simp at this
              omega
            · rw [if_neg k] at e
              have := ((I.ed old ho d _).mp e).1
              omega
          · rintro ⟨_, h, _⟩
            rw [if_pos (key.mpr h)]
        · by_cases hj : j < g.n
          · rw [R0 j hj, Ez _ _ (I.mem hj)]
            by_cases k : d = c ∧ old ∈ preOf g s c
            · rw [if_pos k]
              refine ⟨fun e => absurd (Option.some.inj e).symm zn, fun e => ?_⟩
              have i2 := hm.inner_app.mp e.2.1.inner
              have := ((I.pre hs old).mp k.2).2.2
              exact absurd (k.1 ▸ i2) this
            · rw [if_neg k, I.ed old ho d j, ← ext_app hm]
              refine ⟨fun e => ⟨by omega, e.2, fun h => ?_⟩, fun e => ⟨hj, e.2.1⟩⟩
              have := h.1.length_le
              simp at this
          · refine ⟨fun e => ?_, fun e => absurd e.1 (by omega)⟩
            by_cases k : d = c ∧ old ∈ preOf g s c
            · rw [if_pos k] at e
              exact absurd (Option.some.inj e).symm zn
            · rw [if_neg k] at e
              exact absurd ((I.ed old ho d _).mp e).1 hj
    · by_cases zi : i = g.n
      · -- the letter's class
        rw [zi, e2, Rn]
        refine ⟨(fun e => by cases e), fun ⟨hj, e⟩ => ?_⟩
        have bad : ¬ Inner D (p ++ [c] ++ [d]) := fun h => np h.left
        by_cases zm : j = g.n + 1
        · rw [zm, Rm, Em] at e
          exact absurd e.2.inner bad
        · by_cases zn : j = g.n
          · rw [zn, Rn] at e
            have := e.2.1.length_le
            simp at this
          · have hj2 : j < g.n := by omega
            rw [R0 j hj2, Ez _ _ (I.mem hj2)] at e
            exact absurd e.1.inner bad
      · -- a class that was there
        have hi3 : i < g.n := by omega
        rw [e1 i hi3, R0 i hi3]
        have kr : (d = c ∧ i ∈ redOf g q c old) ↔ (rep i ++ [d]) <:+ (rep q ++ [c]) ∧ Ext (LC D) (rep i ++ [d]) (rep old) := by
          rw [I.red hq eo i]
          constructor
          · rintro ⟨rfl, _, q, e⟩
            exact ⟨suf_app q, ((I.ed i hi3 _ old).mp e).2⟩
          · rintro ⟨q, e⟩
            obtain ⟨rfl, q2⟩ := suf_snoc q
            exact ⟨rfl, hi3, q2, (I.ed i hi3 _ old).mpr ⟨ho, e⟩⟩
        have kp : (d = c ∧ i ∈ preOf g s c) ↔ (rep i ++ [d]) <:+ (p ++ [c]) ∧ ∀ w, (LC D w ∨ w = rep q ++ [c]) → rep i ++ [d] <:+ w → ¬ w <:+ p ++ [c] := by
          rw [I.pre hs i, es]
          constructor
          · rintro ⟨rfl, _, q, e⟩
            exact ⟨suf_app q, fun w lw h _ => e ((lw.elim LC.inner fun e => e ▸ iq).suf h)⟩
          · rintro ⟨q, e⟩
            obtain ⟨rfl, q2⟩ := suf_snoc q
            exact ⟨rfl, hi3, q2, fun h => e _ (.inr rfl) (suf_app (mx _ q2 h)) sm⟩
        have dis : d = c ∧ i ∈ redOf g q c old → ¬ (d = c ∧ i ∈ preOf g s c) := fun a b => by
          have h1 := ((I.pre hs i).mp b.2).2.2
          have h2 := ((I.red hq eo i).mp a.2).2.2
          exact h1 ((I.ed_inner hi3).mp ⟨_, h2⟩)
        by_cases zm : j = g.n + 1
        · rw [zm, Rm, Em, ← kr]
          by_cases k : d = c ∧ i ∈ redOf g q c old
          · rw [if_pos k]
            exact ⟨fun _ => ⟨by omega, k⟩, fun _ => rfl⟩
          · rw [if_neg k]
            refine ⟨fun e => ?_, fun e => absurd e.2 k⟩
            by_cases k2 : d = c ∧ i ∈ preOf g s c
            · rw [if_pos k2] at e
              have := Option.some.inj e
              omega
            · rw [if_neg k2] at e
              have := ((I.ed i hi3 d _).mp e).1
              omega
        · by_cases zn : j = g.n
          · rw [zn, Rn, Ef, ← kp]
            by_cases k : d = c ∧ i ∈ redOf g q c old
            · rw [if_pos k]
              exact ⟨fun e => by have := Option.some.inj e; omega, fun e => absurd e.2 (dis k)⟩
            · rw [if_neg k]
              by_cases k2 : d = c ∧ i ∈ preOf g s c
              · rw [if_pos k2]
                exact ⟨fun _ => ⟨by omega, k2⟩, fun _ => rfl⟩
              · rw [if_neg k2]
                exact ⟨fun e => by have := ((I.ed i hi3 d _).mp e).1; omega, fun e => absurd e.2 k2⟩
          · by_cases hj : j < g.n
            · rw [R0 j hj, Ez _ _ (I.mem hj)]
              by_cases k : d = c ∧ i ∈ redOf g q c old
              · rw [if_pos k]
                have k3 := kr.mp k
                refine ⟨fun e => absurd (Option.some.inj e).symm zm, fun e => absurd ⟨k3.1, ?_⟩ e.2.2⟩
                exact e.2.1.uniq k3.2
              · rw [if_neg k]
                by_cases k2 : d = c ∧ i ∈ preOf g s c
                · rw [if_pos k2]
                  refine ⟨fun e => absurd (Option.some.inj e).symm zn, fun e => ?_⟩
                  have := ((I.pre hs i).mp k2.2).2.2
                  exact absurd (k2.1 ▸ e.2.1.inner) this
                · rw [if_neg k2, I.ed i hi3 d j]
                  exact ⟨fun e => ⟨by omega, e.2, fun h => k (kr.mpr ⟨h.1, h.2 ▸ e.2⟩)⟩, fun e => ⟨hj, e.2.1⟩⟩
            · refine ⟨fun e => ?_, fun e => absurd e.1 (by omega)⟩
              by_cases k : d = c ∧ i ∈ redOf g q c old
              · rw [if_pos k] at e
                exact absurd (Option.some.inj e).symm zm
              · rw [if_neg k] at e
                by_cases k2 : d = c ∧ i ∈ preOf g s c
                · rw [if_pos k2] at e
                  exact absurd (Option.some.inj e).symm zn
                · rw [if_neg k2] at e
                  exact absurd ((I.ed i hi3 d _).mp e).1 hj
  · intro i hi j
    have hi2 : i < g.n + 1 + 1 := hi
    show lk i = some j ↔ j < g.n + 1 + 1 ∧ _
    have Kf : Link (LC D') (p ++ [c]) (rep q ++ [c]) := by
      refine (fresh_link_new nf hL2).mpr ⟨.inr rfl, sm, fun x lx h => ?_⟩
      rcases suf_snoc_cases h with e | ⟨u, e, k⟩
      · exact e ▸ List.nil_suffix
      · have ix : Inner D x := lx.elim LC.inner fun e => e ▸ iq
        exact e ▸ suf_app (mx u k (e ▸ ix))
    have Kz : ∀ {z w}, (LC D z ∨ z = rep q ++ [c]) → (Link (LC D') z w ↔ Link (fun w => LC D w ∨ w = rep q ++ [c]) z w) := fun lz => fresh_link_old nf hL2 lz
    -- a link to an old word, told by old links
    have fin : ∀ {z : Wd}, (∀ w, Link (LC D') z w ↔ Link (LC D) z w) → ∀ {i0 : Nat}, i0 < g.n → rep i0 = z → (g.lk i0 = some j ↔ j < g.n + 1 + 1 ∧ Link (LC D') z (up1 (up1 rep g.n (p ++ [c])) (g.n + 1) (rep q ++ [c]) j)) := by
      intro z hz i0 h0 e0
      rw [I.lk i0 h0 j, hz, e0]
      constructor
      · rintro ⟨hj, e⟩
        exact ⟨by omega, by rw [R0 j hj]; exact e⟩
      · rintro ⟨hj, e⟩
        by_cases zm : j = g.n + 1
        · rw [zm, Rm] at e
          exact absurd e.1 nl
        · by_cases zn : j = g.n
          · rw [zn, Rn] at e
            exact absurd e.1 nlf
          · have hj2 : j < g.n := by omega
            rw [R0 j hj2] at e
            exact ⟨hj2, e⟩
    -- a link to the word that was split off
    have fm : ∀ {z : Wd}, Link (LC D') z (rep q ++ [c]) → (some (g.n + 1) = some j ↔ j < g.n + 1 + 1 ∧ Link (LC D') z (up1 (up1 rep g.n (p ++ [c])) (g.n + 1) (rep q ++ [c]) j)) := by
      intro z hz
      constructor
      · intro e
        have e2 := Option.some.inj e
        rw [← e2, Rm]
        exact ⟨by omega, hz⟩
      · rintro ⟨hj, e⟩
        have e2 := hz.uniq e
        by_cases zm : j = g.n + 1
        · rw [zm]
        · by_cases zn : j = g.n
          · rw [zn, Rn] at e2
            exact absurd e2 mf
          · have hj2 : j < g.n := by omega
            rw [R0 j hj2] at e2
            exact absurd (e2 ▸ I.mem hj2) nl
    by_cases z : i = g.n + 1
    · rw [z, k3, Rm]
      have : ∀ w, Link (LC D') (rep q ++ [c]) w ↔ Link (LC D) (rep old) w := fun w => (Kz (.inr rfl)).trans (split_link_new hm nl hL1)
      rw [I.lk old ho j, this]
      constructor
      · rintro ⟨hj, e⟩
        exact ⟨by omega, by rw [R0 j hj]; exact e⟩
      · rintro ⟨hj, e⟩
        by_cases zm : j = g.n + 1
        · rw [zm, Rm] at e
          exact absurd e.1 nl
        · by_cases zn : j = g.n
          · rw [zn, Rn] at e
            exact absurd e.1 nlf
          · have hj2 : j < g.n := by omega
            rw [R0 j hj2] at e
            exact ⟨hj2, e⟩
    · by_cases zi : i = g.n
      · rw [zi, k2, Rn]
        exact fm Kf
      · have hi3 : i < g.n := by omega
        rw [k1 i hi3, R0 i hi3]
        by_cases zo : i = old
        · rw [if_pos zo, zo]
          exact fm ((Kz (.inl (I.mem ho))).mpr ((split_link_v hm nl hL1).mpr rfl))
        · rw [if_neg zo]
          exact fin (fun w => (Kz (.inl (I.mem hi3))).trans (split_link_old hm nl hL1 (I.mem hi3) fun e => zo (I.inj i old hi3 ho e))) hi3 rfl
/-- a letter more -/
theorem after_ok (I : Inv (LC D) g rep) (Gr : Grow D D' p c) {s : Nat} (hs : s < g.n) (es : rep s = p) : Step D' g rep (p ++ [c]) (after g s c) := by
  unfold after
  cases e : g.ed s c with
  | some old => exact step_old I Gr hs es (es ▸ (I.ed_inner hs).mp ⟨old, e⟩)
  | none =>
    have np : ¬ Inner D (p ++ [c]) := es ▸ (I.ed_none hs).mp e
    have pw : (chain g s).Pairwise (fun a b => rep b <:+ rep a ∧ rep b ≠ rep a) := I.chain_pw hs
    show Step D' g rep (p ++ [c]) (match nextOf g s c with | none => _ | some q => _)
    cases en : nextOf g s c with
    | none =>
      have no : ∀ u, u <:+ p → ¬ Inner D (u ++ [c]) := fun u su iu => by
        obtain ⟨q, l, s1, s2, i2⟩ := Gr.up _ (Nat.le_refl _) su iu
        obtain ⟨j, hj, ej⟩ := (I.lc q).mp l
        have := dw_none en j ((I.mem_chain hs).mpr ⟨hj, by rw [ej, es]; exact s2⟩)
        exact (I.ed_none hj).mp (of_decide_eq_true this) (ej ▸ i2)
      exact step_fresh I Gr hs es np I.n0 (Gr.lc_none no) (by rw [I.r0]; exact List.nil_suffix) (fun u su iu => absurd iu (no u su)) _ up1_same (fun i h => up1_ne (by omega))
    | some q =>
      obtain ⟨cq, nq, mq⟩ := dw_some pw en
      obtain ⟨hq, sq⟩ := (I.mem_chain hs).mp cq
      rw [es] at sq
      have nq2 : g.ed q c ≠ none := of_decide_eq_false nq
      obtain ⟨old, eo⟩ := Option.ne_none_iff_exists'.mp nq2
      obtain ⟨ho, hm⟩ := (I.ed q hq c old).mp eo
      have mx : ∀ u, u <:+ p → Inner D (u ++ [c]) → u <:+ rep q := fun u su iu => by
        obtain ⟨q', l, s1, s2, i2⟩ := Gr.up _ (Nat.le_refl _) su iu
        obtain ⟨j, hj, ej⟩ := (I.lc q').mp l
        have cj := (I.mem_chain hs).mpr ⟨hj, by rw [ej, es]; exact s2⟩
        have nj : g.ed j c ≠ none := fun z => (I.ed_none hj).mp z (ej ▸ i2)
        rcases mq j cj (decide_eq_false nj) with e | ⟨h, _⟩
        · rw [← e, ej]; exact s1
        · exact s1.trans (ej ▸ h)
      have qp : q ∉ preOf g s c := fun z => ((I.pre hs q).mp z).2.2 hm.inner
      have qn : q ≠ g.n := by omega
      have on : old ≠ g.n := by omega
      show Step D' g rep (p ++ [c]) (setLk (ledTo (setEd (addG g (g.sz s + 1) (fun _ => none) (some 0)) c g.n (preOf g s c)) q c).1 g.n (some (ledTo (setEd (addG g (g.sz s + 1) (fun _ => none) (some 0)) c g.n (preOf g s c)) q c).2), g.n)
      have g2e : (setEd (addG g (g.sz s + 1) (fun _ => none) (some 0)) c g.n (preOf g s c)).ed q c = some old := by
        show (if c = c ∧ q ∈ preOf g s c then _ else up1 g.ed g.n (fun _ => none) q c) = _
        rw [if_neg (fun z => qp z.2), up1_ne qn, eo]
      have z1 : (setEd (addG g (g.sz s + 1) (fun _ => none) (some 0)) c g.n (preOf g s c)).sz old = g.sz old := up1_ne on
      have z2 : (setEd (addG g (g.sz s + 1) (fun _ => none) (some 0)) c g.n (preOf g s c)).sz q = g.sz q := up1_ne qn
      unfold ledTo
      rw [g2e]
      show Step D' g rep (p ++ [c]) (setLk (if _ then _ else _ : G × Nat).1 g.n (some (if _ then _ else _ : G × Nat).2), g.n)
      rw [z1, z2]
      have hz : g.sz old = g.sz q + 1 ↔ LC D (rep q ++ [c]) := by
        rw [I.sz old ho, I.sz q hq]
        constructor
        · intro e
          have := hm.2.1.eq_of_length (by simp; omega)
          exact this ▸ hm.1
        · intro l
          rw [hm.of_mem l]
          simp
      by_cases l : LC D (rep q ++ [c])
      · rw [if_pos (hz.mpr l)]
        have hL : ∀ w, LC D' w ↔ LC D w ∨ w = p ++ [c] := fun w => by
          rw [Gr.lc_some np sq hm.inner mx w]
          exact ⟨fun h => h.elim (fun h => h.elim .inl fun e => .inl (e ▸ l)) .inr, fun h => h.elim (fun h => .inl (.inl h)) .inr⟩
        have eo2 := hm.of_mem l
        exact step_fresh I Gr hs es np ho hL (by rw [eo2]; exact suf_app sq) (fun u su iu => by rw [eo2]; exact suf_app (mx u su iu)) _ up1_same (fun i h => by
          show up1 (up1 g.lk g.n (some 0)) g.n (some old) i = _
          rw [up1_ne (by omega), up1_ne (by omega)])
      · rw [if_neg (fun z => l (hz.mp z))]
        have rd : redOf (setEd (addG g (g.sz s + 1) (fun _ => none) (some 0)) c g.n (preOf g s c)) q c old = redOf g q c old := by
          unfold redOf
          have ec : chain (setEd (addG g (g.sz s + 1) (fun _ => none) (some 0)) c g.n (preOf g s c)) q = chain g q := by
            unfold chain
            rw [z2]
            exact I.chn_congr (fun i h => up1_ne (by omega)) _ hq
          rw [ec]
          refine tw_congr fun x hx => ?_
          obtain ⟨hx1, hx2⟩ := (I.mem_chain hq).mp hx
          have xp : x ∉ preOf g s c := fun z => ((I.pre hs x).mp z).2.2 (hm.inner.suf (suf_app hx2))
          have : (setEd (addG g (g.sz s + 1) (fun _ => none) (some 0)) c g.n (preOf g s c)).ed x c = g.ed x c := by
            show (if c = c ∧ x ∈ preOf g s c then _ else up1 g.ed g.n (fun _ => none) x c) = _
            rw [if_neg (fun z => xp z.2), up1_ne (by omega)]
          rw [this]
        rw [rd]
        refine step_both I Gr hs es np hq sq eo l mx _ _ (fun i h d => ?_) (fun d => ?_) (fun d => ?_) (fun i h => ?_) ?_ ?_
        · show (if d = c ∧ i ∈ redOf g q c old then some (g.n + 1) else up1 (fun x d => if d = c ∧ x ∈ preOf g s c then some g.n else up1 g.ed g.n (fun _ => none) x d) (g.n + 1) _ i d) = _
          rw [up1_ne (by omega), up1_ne (by omega)]
        · show (if d = c ∧ g.n ∈ redOf g q c old then some (g.n + 1) else up1 (fun x d => if d = c ∧ x ∈ preOf g s c then some g.n else up1 g.ed g.n (fun _ => none) x d) (g.n + 1) _ g.n d) = _
          rw [if_neg (fun z => by have := ((I.red hq eo _).mp z.2).1; omega), up1_ne (by omega)]
          show (if d = c ∧ g.n ∈ preOf g s c then some g.n else up1 g.ed g.n (fun _ => none) g.n d) = _
          rw [if_neg (fun z => by have := ((I.pre hs _).mp z.2).1; omega), up1_same]
        · show (if d = c ∧ g.n + 1 ∈ redOf g q c old then some (g.n + 1) else up1 (fun x d => if d = c ∧ x ∈ preOf g s c then some g.n else up1 g.ed g.n (fun _ => none) x d) (g.n + 1) _ (g.n + 1) d) = _
          rw [if_neg (fun z => by have := ((I.red hq eo _).mp z.2).1; omega), up1_same]
          show (if d = c ∧ old ∈ preOf g s c then some g.n else up1 g.ed g.n (fun _ => none) old d) = _
          rw [up1_ne on]
        · show up1 (up1 (up1 (up1 g.lk g.n (some 0)) (g.n + 1) _) old (some (g.n + 1))) g.n (some (g.n + 1)) i = _
          rw [up1_ne (by omega)]
          by_cases zo : i = old
          · rw [if_pos zo, zo, up1_same]
          · rw [if_neg zo, up1_ne zo, up1_ne (by omega), up1_ne (by omega)]
        · exact up1_same
        · show up1 (up1 (up1 (up1 g.lk g.n (some 0)) (g.n + 1) (up1 g.lk g.n (some 0) old)) old (some (g.n + 1))) g.n (some (g.n + 1)) (g.n + 1) = _
          rw [up1_ne (by omega), up1_ne (by omega), up1_same, up1_ne on]
end
end Sam
set_option linter.all false
/-! Shortest words, and the classes in breadth. -/
namespace Sam
/-- by the number of letters, then as texts -/
def slx (u v : Wd) : Prop := u.length < v.length ∨ (u.length = v.length ∧ u < v)
theorem slx_irr {u : Wd} (h : slx u u) : False := by
  rcases h with h | ⟨_, h⟩
  · omega
  · exact List.lt_irrefl u h
theorem slx_trans {u v w : Wd} (h1 : slx u v) (h2 : slx v w) : slx u w := by
  rcases h1 with h1 | ⟨e1, h1⟩
  · rcases h2 with h2 | ⟨e2, h2⟩
    · exact .inl (by omega)
    · exact .inl (by omega)
  · rcases h2 with h2 | ⟨e2, h2⟩
    · exact .inl (by omega)
    · exact .inr ⟨by omega, List.lt_trans h1 h2⟩
theorem slx_tot (u v : Wd) : slx u v ∨ u = v ∨ slx v u := by
  rcases Nat.lt_trichotomy u.length v.length with h | h | h
  · exact .inl (.inl h)
  · by_cases a : u < v
    · exact .inl (.inr ⟨h, a⟩)
    · by_cases b : v < u
      · exact .inr (.inr (.inr ⟨h.symm, b⟩))
      · exact .inr (.inl (List.le_antisymm (List.not_lt.mp b) (List.not_lt.mp a)))
  · exact .inr (.inr (.inl h))
theorem lt_snoc {c d : Nat} : ∀ {u v : Wd}, u.length = v.length → u < v → u ++ [c] < v ++ [d]
  | [], [], _, h => absurd h (List.lt_irrefl _)
  | a :: u, b :: v, hl, h => by
    rcases List.cons_lt_cons_iff.mp h with h | ⟨e, h⟩
    · exact List.cons_lt_cons_iff.mpr (.inl h)
    · exact List.cons_lt_cons_iff.mpr (.inr ⟨e, lt_snoc (by simpa using hl) h⟩)
theorem lt_last {c d : Nat} (h : c < d) : ∀ u : Wd, u ++ [c] < u ++ [d]
  | [] => List.cons_lt_cons_iff.mpr (.inl h)
  | a :: u => List.cons_lt_cons_iff.mpr (.inr ⟨rfl, lt_last h u⟩)
theorem slx_snoc {u v : Wd} {c d : Nat} (h : slx u v) : slx (u ++ [c]) (v ++ [d]) := by
  rcases h with h | ⟨e, h⟩
  · exact .inl (by simpa using h)
  · exact .inr ⟨by simpa using e, lt_snoc e h⟩
theorem slx_last {u : Wd} {c d : Nat} (h : c < d) : slx (u ++ [c]) (u ++ [d]) := .inr ⟨by simp, lt_last h u⟩
def leastSz (g : G) (i : Nat) : Nat := match g.lk i with
  | none => 0
  | some j => g.sz j + 1
/-- the shortest word of a class -/
def mw (g : G) (rep : Nat → Wd) (i : Nat) : Wd := (rep i).drop ((rep i).length - leastSz g i)
section
variable {D : List Wd} {g : G} {rep : Nat → Wd} (I : Inv (LC D) g rep)
include I
theorem Inv.cls {i : Nat} (hi : i < g.n) (u : Wd) : Ext (LC D) u (rep i) ↔ u <:+ rep i ∧ leastSz g i ≤ u.length := by
  unfold leastSz
  cases e : g.lk i with
  | none =>
    have z := I.lk_none hi e
    refine ⟨fun h => ⟨h.2.1, Nat.zero_le _⟩, fun ⟨s, _⟩ => ?_⟩
    rw [z] at s ⊢
    rw [List.suffix_nil.mp s]
    exact .self (z ▸ I.mem hi)
  | some j =>
    obtain ⟨hj, hz, sj, nj⟩ := I.dec hi e
    have l := ((I.lk i hi j).mp e).2
    have sj2 := I.sz j hj
    constructor
    · intro h
      refine ⟨h.2.1, ?_⟩
      show g.sz j + 1 ≤ u.length
      refine Classical.byContradiction fun n => nj ?_
      exact h.2.2 _ (I.mem hj) (suf_of h.2.1 sj (by omega)) sj
    · rintro ⟨s, h⟩
      have h : g.sz j + 1 ≤ u.length := h
      refine ⟨I.mem hi, s, fun w lw h1 h2 => Classical.byContradiction fun n => ?_⟩
      have := (l.2.2.2 w lw h2 n).length_le
      have := h1.length_le
      omega
theorem Inv.least_le {i : Nat} (hi : i < g.n) : leastSz g i ≤ (rep i).length := by
  have := (I.cls hi (rep i)).mp (.self (I.mem hi))
  exact this.2
theorem Inv.mw_len {i : Nat} (hi : i < g.n) : (mw g rep i).length = leastSz g i := by
  unfold mw
  have := I.least_le hi
  rw [List.length_drop]
  omega
theorem Inv.mw_ext {i : Nat} (hi : i < g.n) : Ext (LC D) (mw g rep i) (rep i) :=
  (I.cls hi _).mpr ⟨List.drop_suffix _ _, by rw [I.mw_len hi]; exact Nat.le_refl _⟩
theorem Inv.mw_le {i : Nat} (hi : i < g.n) {u : Wd} (h : Ext (LC D) u (rep i)) : mw g rep i <:+ u := by
  have := (I.cls hi u).mp h
  exact suf_of (List.drop_suffix _ _) this.1 (by rw [I.mw_len hi]; exact this.2)
theorem Inv.mw_inj {i j : Nat} (hi : i < g.n) (hj : j < g.n) (h : mw g rep i = mw g rep j) : i = j :=
  I.inj i j hi hj ((I.mw_ext hi).uniq (h ▸ I.mw_ext hj))
theorem Inv.mw_zero : mw g rep 0 = [] := by
  unfold mw
  rw [I.r0]
  exact List.drop_nil
theorem Inv.mw_nil {i : Nat} (hi : i < g.n) (h : mw g rep i = []) : i = 0 := I.mw_inj hi I.n0 (h.trans I.mw_zero.symm)
theorem Inv.mw_edge {x y c : Nat} (hy : y < g.n) (e : g.ed y c = some x) : x < g.n ∧ mw g rep x <:+ mw g rep y ++ [c] := by
  obtain ⟨hx, h⟩ := (I.ed y hy c x).mp e
  exact ⟨hx, I.mw_le hx ((ext_app (I.mw_ext hy)).mpr h)⟩
theorem Inv.mw_par {x : Nat} (hx : x < g.n) (n : mw g rep x ≠ []) : ∃ y c, y < g.n ∧ mw g rep x = mw g rep y ++ [c] ∧ g.ed y c = some x := by
  rcases List.eq_nil_or_concat (mw g rep x) with e | ⟨u, c, e⟩
  · exact absurd e n
  · rw [List.concat_eq_append] at e
    have hm := I.mw_ext hx
    rw [e] at hm
    obtain ⟨v, hv⟩ := hm.inner.left.ext
    obtain ⟨y, hy, ey⟩ := (I.lc v).mp hv.1
    subst ey
    have h1 : Ext (LC D) (rep y ++ [c]) (rep x) := (ext_app hv).mp hm
    have h2 := I.mw_le hx ((ext_app (I.mw_ext hy)).mpr h1)
    rw [e] at h2
    have h3 := (suf_snoc h2).2
    have h4 := I.mw_le hy hv
    exact ⟨y, c, hy, by rw [e, suf_antisymm h3 h4], (I.ed y hy c x).mpr ⟨hx, h1⟩⟩
end
/-- the classes met so far: those whose shortest word without its last letter has been gone through -/
structure Bf (g : G) (rep : Nat → Wd) (os : List Nat) (at_ : Nat) (P : Nat → Prop) : Prop where
  h0 : os[0]? = some 0
  lt : ∀ x ∈ os, x < g.n
  so : os.Pairwise (fun a b => slx (mw g rep a) (mw g rep b))
  mem : ∀ x, x < g.n → (x ∈ os ↔ x = 0 ∨ ∃ k y c, os[k]? = some y ∧ mw g rep x = mw g rep y ++ [c] ∧ (k < at_ ∨ (k = at_ ∧ P c)))
theorem Bf.nd {g : G} {rep : Nat → Wd} {os : List Nat} {at_ : Nat} {P : Nat → Prop} (B : Bf g rep os at_ P) : os.Nodup := by
  refine List.Pairwise.imp ?_ B.so
  intro a b h e
  rw [e] at h
  exact slx_irr h
theorem nd_len : ∀ (n : Nat) (l : List Nat), l.Nodup → (∀ x ∈ l, x < n) → l.length ≤ n
  | 0, [], _, _ => Nat.le_refl _
  | 0, a :: l, _, h => absurd (h a (List.mem_cons_self ..)) (Nat.not_lt_zero _)
  | n + 1, l, nd, h => by
    have h1 := nd_len n (l.erase n) (nd.erase n) fun x hx => by
      have := h x (List.mem_of_mem_erase hx)
      have : x ≠ n := (List.Nodup.mem_erase_iff nd).mp hx |>.1
      omega
    have := List.length_erase (a := n) (l := l)
    split at this <;> omega
section
variable {D : List Wd} {g : G} {rep : Nat → Wd} (I : Inv (LC D) g rep) {os : List Nat} {at_ : Nat} {P : Nat → Prop}
include I
theorem Bf.start : Bf g rep [0] 0 fun _ => False := by
  refine ⟨rfl, fun x h => by rw [List.mem_singleton.mp h]; exact I.n0, by simp, fun x hx => ?_⟩
  rw [List.mem_singleton]
  refine ⟨.inl, fun h => h.elim id ?_⟩
  rintro ⟨k, y, c, _, _, h | ⟨_, h⟩⟩
  · omega
  · exact h.elim
theorem Bf.pos (B : Bf g rep os at_ P) {i j x y : Nat} (hx : os[i]? = some x) (hy : os[j]? = some y) (h : slx (mw g rep x) (mw g rep y)) : i < j := by
  refine Classical.byContradiction fun n => ?_
  obtain ⟨hi, ei⟩ := List.getElem?_eq_some_iff.mp hx
  obtain ⟨hj, ej⟩ := List.getElem?_eq_some_iff.mp hy
  by_cases e : i = j
  · subst e
    rw [ei] at ej
    exact slx_irr (ej ▸ h)
  · have := List.pairwise_iff_getElem.mp B.so j i hj hi (by omega)
    rw [ei, ej] at this
    exact slx_irr (slx_trans h this)
theorem Bf.all (B : Bf g rep os at_ P) {y : Nat} (hy : os[at_]? = some y) : ∀ (n : Nat) {z : Nat}, (mw g rep z).length ≤ n → z < g.n → slx (mw g rep z) (mw g rep y) → ∃ k, k < at_ ∧ os[k]? = some z
  | n, z, hn, hz, h => by
    have fin : z ∈ os → ∃ k, k < at_ ∧ os[k]? = some z := fun m => by
      obtain ⟨k, hk, ek⟩ := List.getElem_of_mem m
      have e : os[k]? = some z := by rw [List.getElem?_eq_getElem hk, ek]
      exact ⟨k, Bf.pos I B e hy h, e⟩
    by_cases z0 : z = 0
    · exact fin ((B.mem z hz).mpr (.inl z0))
    · obtain ⟨y', c, hy', e, _⟩ := I.mw_par hz (fun q => z0 (I.mw_nil hz q))
      have hl : (mw g rep z).length = (mw g rep y').length + 1 := by rw [e]; simp
      match n, hn with
      | 0, hn => omega
      | n + 1, hn =>
        have hle : (mw g rep z).length ≤ (mw g rep y).length := by
          rcases h with h | ⟨h, _⟩ <;> omega
        obtain ⟨k, hk, ek⟩ := Bf.all B hy n (z := y') (by omega) hy' (.inl (by omega))
        exact fin ((B.mem z hz).mpr (.inr ⟨k, y', c, ek, e, .inl hk⟩))
/-- a letter of the class that is gone through -/
theorem Bf.step (B : Bf g rep os at_ P) {y c x : Nat} (hy : os[at_]? = some y) (e : g.ed y c = some x) (hP : ∀ d, P d → d < c) :
    x < g.n ∧ Bf g rep (if x ∈ os then os else os ++ [x]) at_ (fun d => P d ∨ d = c) := by
  have yn := B.lt y (List.mem_of_getElem? hy)
  obtain ⟨hx, sx⟩ := I.mw_edge yn e
  refine ⟨hx, ?_⟩
  have hat : at_ < os.length := (List.getElem?_eq_some_iff.mp hy).1
  by_cases k : mw g rep x = mw g rep y ++ [c]
  · have nx : x ∉ os := fun m => by
      rcases (B.mem x hx).mp m with z | ⟨j, y', c', hj, e', h⟩
      · rw [z, I.mw_zero] at k
        simp at k
      · rw [k] at e'
        obtain ⟨e1, e2⟩ := List.append_inj' e' rfl
        have e3 : c = c' := by simpa using e2
        have yn' := B.lt y' (List.mem_of_getElem? hj)
        have e4 := I.mw_inj yn yn' e1
        subst e3 e4
        rcases h with h | ⟨_, h⟩
        · have := (List.getElem?_inj hat B.nd).mp (hy.trans hj.symm)
          omega
        · exact Nat.lt_irrefl _ (hP c h)
    rw [if_neg nx]
    refine ⟨by rw [List.getElem?_append_left (by omega)]; exact B.h0, fun z hz => ?_, ?_, fun z hz => ?_⟩
    · rcases List.mem_append.mp hz with m | m
      · exact B.lt z m
      · rw [List.mem_singleton.mp m]; exact hx
    · rw [List.pairwise_append]
      refine ⟨B.so, by simp, fun z hz x' hx' => ?_⟩
      rw [List.mem_singleton.mp hx', k]
      rcases (B.mem z (B.lt z hz)).mp hz with q | ⟨j, y', c', hj, e', h⟩
      · rw [q, I.mw_zero]
        exact .inl (by simp)
      · rw [e']
        rcases h with h | ⟨h, h2⟩
        · refine slx_snoc ?_
          obtain ⟨hj1, hj2⟩ := List.getElem?_eq_some_iff.mp hj
          obtain ⟨ha1, ha2⟩ := List.getElem?_eq_some_iff.mp hy
          have := List.pairwise_iff_getElem.mp B.so j at_ hj1 ha1 h
          rw [hj2, ha2] at this
          exact this
        · subst h
          rw [hy] at hj
          cases hj
          exact slx_last (hP c' h2)
    · rw [List.mem_append, List.mem_singleton, B.mem z hz]
      constructor
      · rintro ((q | ⟨j, y', c', hj, e', h⟩) | q)
        · exact .inl q
        · refine .inr ⟨j, y', c', ?_, e', h.imp id fun h => ⟨h.1, .inl h.2⟩⟩
          rw [List.getElem?_append_left (List.getElem?_eq_some_iff.mp hj).1]
          exact hj
        · refine .inr ⟨at_, y, c, ?_, by rw [q]; exact k, .inr ⟨rfl, .inr rfl⟩⟩
          rw [List.getElem?_append_left hat]
          exact hy
      · rintro (q | ⟨j, y', c', hj, e', h⟩)
        · exact .inl (.inl q)
        · have hj2 : j < os.length := by rcases h with h | ⟨h, _⟩ <;> omega
          rw [List.getElem?_append_left hj2] at hj
          rcases h with h | ⟨h, h2 | h2⟩
          · exact .inl (.inr ⟨j, y', c', hj, e', .inl h⟩)
          · exact .inl (.inr ⟨j, y', c', hj, e', .inr ⟨h, h2⟩⟩)
          · right
            subst h h2
            rw [hy] at hj
            cases hj
            exact I.mw_inj hz hx (e'.trans k.symm)
  · have xm : x ∈ os := by
      by_cases x0 : x = 0
      · exact (B.mem x hx).mpr (.inl x0)
      · obtain ⟨y', c', hy', e', _⟩ := I.mw_par hx (fun q => x0 (I.mw_nil hx q))
        have hl : (mw g rep x).length = (mw g rep y').length + 1 := by rw [e']; simp
        have hle := sx.length_le
        have hne : (mw g rep x).length ≠ (mw g rep y ++ [c]).length := fun q => k (sx.eq_of_length q)
        simp at hle hne
        obtain ⟨j, hj, ej⟩ := Bf.all I B hy _ (Nat.le_refl _) hy' (.inl (by omega))
        exact (B.mem x hx).mpr (.inr ⟨j, y', c', ej, e', .inl hj⟩)
    rw [if_pos xm]
    refine ⟨B.h0, B.lt, B.so, fun z hz => ?_⟩
    rw [B.mem z hz]
    constructor
    · rintro (q | ⟨j, y', c', hj, e', h⟩)
      · exact .inl q
      · exact .inr ⟨j, y', c', hj, e', h.imp id fun h => ⟨h.1, .inl h.2⟩⟩
    · rintro (q | ⟨j, y', c', hj, e', h⟩)
      · exact .inl q
      · rcases h with h | ⟨h, h2 | h2⟩
        · exact .inr ⟨j, y', c', hj, e', .inl h⟩
        · exact .inr ⟨j, y', c', hj, e', .inr ⟨h, h2⟩⟩
        · subst h h2
          rw [hy] at hj
          cases hj
          have : g.ed y c' = some z := by
            have h1 := I.mw_ext hz
            rw [e'] at h1
            exact (I.ed y yn c' z).mpr ⟨hz, (ext_app (I.mw_ext yn)).mp h1⟩
          rw [e] at this
          have := Option.some.inj this
          exact absurd (this ▸ e') k
/-- all its letters have been gone through -/
theorem Bf.next (B : Bf g rep os at_ P) {y : Nat} (hy : os[at_]? = some y) (h : ∀ c, (∃ x, g.ed y c = some x) → P c) : Bf g rep os (at_ + 1) fun _ => False := by
  have yn := B.lt y (List.mem_of_getElem? hy)
  refine ⟨B.h0, B.lt, B.so, fun z hz => ?_⟩
  rw [B.mem z hz]
  constructor
  · rintro (q | ⟨j, y', c', hj, e', k | ⟨k, _⟩⟩)
    · exact .inl q
    · exact .inr ⟨j, y', c', hj, e', .inl (by omega)⟩
    · exact .inr ⟨j, y', c', hj, e', .inl (by omega)⟩
  · rintro (q | ⟨j, y', c', hj, e', k | ⟨_, k⟩⟩)
    · exact .inl q
    · by_cases k2 : j = at_
      · subst k2
        rw [hy] at hj
        cases hj
        refine .inr ⟨j, y, c', hy, e', .inr ⟨rfl, h c' ⟨z, ?_⟩⟩⟩
        have h1 := I.mw_ext hz
        rw [e'] at h1
        exact (I.ed y yn c' z).mpr ⟨hz, (ext_app (I.mw_ext yn)).mp h1⟩
      · exact .inr ⟨j, y', c', hj, e', .inl (by omega)⟩
    · exact k.elim
theorem Bf.len_le (B : Bf g rep os at_ P) : os.length ≤ g.n := nd_len g.n os B.nd B.lt
/-- at the end all classes stand there -/
theorem Bf.full (B : Bf g rep os at_ P) (h : os.length ≤ at_) : ∀ (n : Nat) {z : Nat}, (mw g rep z).length ≤ n → z < g.n → z ∈ os
  | n, z, hn, hz => by
    by_cases z0 : z = 0
    · exact (B.mem z hz).mpr (.inl z0)
    · obtain ⟨y', c', hy', e', _⟩ := I.mw_par hz (fun q => z0 (I.mw_nil hz q))
      have hl : (mw g rep z).length = (mw g rep y').length + 1 := by rw [e']; simp
      match n, hn with
      | 0, hn => omega
      | n + 1, hn =>
        have m := Bf.full B h n (z := y') (by omega) hy'
        obtain ⟨j, hj, ej⟩ := List.getElem_of_mem m
        exact (B.mem z hz).mpr (.inr ⟨j, y', c', by rw [List.getElem?_eq_getElem hj, ej], e', .inl (by omega)⟩)
end
end Sam
set_option linter.all false
/-! The start, a new text, the numbers in order; the places of words. -/
namespace Sam
theorem nd_same {α : Type} {l m : List α} (h1 : l.Nodup) (h2 : m.Nodup) (h : ∀ a, a ∈ l ↔ a ∈ m) : l.length = m.length := ((List.perm_ext_iff_of_nodup h1 h2).mpr h).length_eq
theorem inner_nil {u : Wd} : Inner [[]] u ↔ u = [] := by
  constructor
  · rintro ⟨t, m, x, y, e⟩
    rw [List.mem_singleton.mp m] at e
    have := congrArg List.length e
    simp at this
    exact List.eq_nil_of_length_eq_zero (by omega)
  · rintro rfl
    exact ⟨[], by simp, [], [], rfl⟩
theorem lc_start (w : Wd) : LC [[]] w ↔ w = [] := by
  constructor
  · exact fun h => inner_nil.mp h.inner
  · rintro rfl
    exact .inl ⟨[], by simp, [], rfl⟩
def g0 : G := ⟨1, fun _ _ => none, fun _ => 0, fun _ => none⟩
theorem inv_start : Inv (LC [[]]) g0 (fun _ => []) := by
  have z : ∀ i, i < 1 → i = 0 := fun i h => by omega
  refine ⟨Nat.one_pos, rfl, fun i j hi hj _ => by rw [z i hi, z j hj], fun w => ?_, fun _ _ => rfl, fun i hi c j => ?_, fun i hi j => ?_⟩
  · rw [lc_start]
    exact ⟨fun e => ⟨0, Nat.one_pos, e.symm⟩, fun ⟨_, _, e⟩ => e.symm⟩
  · refine ⟨(fun e => by cases e), fun ⟨_, e⟩ => ?_⟩
    have := e.2.1.length_le
    simp at this
  · refine ⟨(fun e => by cases e), fun ⟨_, e⟩ => absurd rfl e.2.2.1⟩
theorem lc_text {D : List Wd} (h : D ≠ []) : LC (D ++ [[]]) = LC D := by
  obtain ⟨t, ht⟩ := List.exists_mem_of_ne_nil D h
  have inn : ∀ u, Inner (D ++ [[]]) u ↔ Inner D u := fun u => by
    constructor
    · rintro ⟨t', m, x, y, e⟩
      rcases List.mem_append.mp m with m | m
      · exact ⟨t', m, x, y, e⟩
      · have : u = [] := inner_nil.mp ⟨t', m, x, y, e⟩
        exact ⟨t, ht, [], t, by rw [this]; rfl⟩
    · rintro ⟨t', m, x, y, e⟩
      exact ⟨t', List.mem_append_left _ m, x, y, e⟩
  have pre : ∀ u, Pre (D ++ [[]]) u ↔ Pre D u := fun u => by
    constructor
    · rintro ⟨t', m, y, e⟩
      rcases List.mem_append.mp m with m | m
      · exact ⟨t', m, y, e⟩
      · have : u = [] := inner_nil.mp ⟨t', m, [], y, e⟩
        exact ⟨t, ht, t, by rw [this]; rfl⟩
    · rintro ⟨t', m, y, e⟩
      exact ⟨t', List.mem_append_left _ m, y, e⟩
  funext u
  unfold LC
  rw [pre]
  refine propext ⟨fun h => h.imp id ?_, fun h => h.imp id ?_⟩
  · rintro ⟨a, b, n, h1, h2⟩
    exact ⟨a, b, n, (inn _).mp h1, (inn _).mp h2⟩
  · rintro ⟨a, b, n, h1, h2⟩
    exact ⟨a, b, n, (inn _).mpr h1, (inn _).mpr h2⟩
/-! other numbers -/
def reG (g : G) (os : List Nat) : G := ⟨g.n, fun k c => (g.ed (os.getD k 0) c).map fun x => os.idxOf x, fun k => g.sz (os.getD k 0), fun k => (g.lk (os.getD k 0)).map fun x => os.idxOf x⟩
def reR (rep : Nat → Wd) (os : List Nat) : Nat → Wd := fun k => rep (os.getD k 0)
section
variable {L : Wd → Prop} {g : G} {rep : Nat → Wd} {os : List Nat} (I : Inv L g rep) (nd : os.Nodup) (lt : ∀ x ∈ os, x < g.n) (full : ∀ x, x < g.n → x ∈ os)
include nd lt full
theorem re_len : os.length = g.n := by
  have := nd_same nd (List.nodup_range (n := g.n)) fun a => ⟨fun h => List.mem_range.mpr (lt a h), fun h => full a (List.mem_range.mp h)⟩
  rwa [List.length_range] at this
theorem re_o {k : Nat} (h : k < g.n) : os.getD k 0 < g.n ∧ os.idxOf (os.getD k 0) = k := by
  have hl := re_len nd lt full
  have hk : k < os.length := by omega
  have e : os.getD k 0 = os[k] := by rw [List.getD_eq_getElem?_getD, List.getElem?_eq_getElem hk]; rfl
  rw [e]
  exact ⟨lt _ (List.getElem_mem hk), nd.idxOf_getElem k hk⟩
theorem re_n {x : Nat} (h : x < g.n) : os.idxOf x < g.n ∧ os.getD (os.idxOf x) 0 = x := by
  have hl := re_len nd lt full
  have hk := List.idxOf_lt_length_of_mem (full x h)
  refine ⟨by omega, ?_⟩
  rw [List.getD_eq_getElem?_getD, List.getElem?_eq_getElem hk]
  exact List.getElem_idxOf hk
include I
theorem Inv.reorder (h0 : os.getD 0 0 = 0) : Inv L (reG g os) (reR rep os) := by
  have o := fun {k : Nat} => re_o (k := k) nd lt full
  have n := fun {k : Nat} => re_n (x := k) nd lt full
  have map_iff : ∀ (m : Option Nat) (j : Nat), (∀ x, m = some x → x < g.n) → (m.map (fun x => os.idxOf x) = some j ↔ j < g.n ∧ m = some (os.getD j 0)) := fun m j hm => by
    cases m with
    | none => simp
    | some x =>
      have hx := hm x rfl
      constructor
      · intro e
        have e2 : os.idxOf x = j := Option.some.inj e
        rw [← e2]
        exact ⟨(n hx).1, by rw [(n hx).2]⟩
      · rintro ⟨hj, e⟩
        have e2 : x = os.getD j 0 := Option.some.inj e
        show some (os.idxOf x) = some j
        rw [e2, (o hj).2]
  refine ⟨I.n0, ?_, fun i j hi hj e => ?_, fun w => ?_, fun i hi => ?_, fun i hi c j => ?_, fun i hi j => ?_⟩
  · show rep (os.getD 0 0) = []
    rw [h0]
    exact I.r0
  · have := I.inj _ _ (o hi).1 (o hj).1 e
    rw [← (o hi).2, ← (o hj).2, this]
  · rw [I.lc]
    constructor
    · rintro ⟨i, hi, e⟩
      exact ⟨os.idxOf i, (n hi).1, by show rep (os.getD (os.idxOf i) 0) = w; rw [(n hi).2]; exact e⟩
    · rintro ⟨i, hi, e⟩
      exact ⟨_, (o hi).1, e⟩
  · exact I.sz _ (o hi).1
  · show (g.ed (os.getD i 0) c).map (fun x => os.idxOf x) = some j ↔ _
    rw [map_iff _ _ fun x hx => ((I.ed _ (o hi).1 c x).mp hx).1, I.ed _ (o hi).1 c]
    constructor
    · rintro ⟨hj, _, e⟩
      exact ⟨hj, e⟩
    · rintro ⟨hj, e⟩
      exact ⟨hj, (o hj).1, e⟩
  · show (g.lk (os.getD i 0)).map (fun x => os.idxOf x) = some j ↔ _
    rw [map_iff _ _ fun x hx => ((I.lk _ (o hi).1 x).mp hx).1, I.lk _ (o hi).1]
    constructor
    · rintro ⟨hj, _, e⟩
      exact ⟨hj, e⟩
    · rintro ⟨hj, e⟩
      exact ⟨hj, (o hj).1, e⟩
theorem Inv.re_mw {k : Nat} (h : k < g.n) : mw (reG g os) (reR rep os) k = mw g rep (os.getD k 0) := by
  have o := fun {k : Nat} => re_o (k := k) nd lt full
  have n := fun {k : Nat} => re_n (x := k) nd lt full
  have : leastSz (reG g os) k = leastSz g (os.getD k 0) := by
    unfold leastSz
    show (match (g.lk (os.getD k 0)).map (fun x => os.idxOf x) with | none => 0 | some j => g.sz (os.getD j 0) + 1) = _
    cases e : g.lk (os.getD k 0) with
    | none => rfl
    | some x =>
      have hx := (I.dec (o h).1 e).1
      show g.sz (os.getD (os.idxOf x) 0) + 1 = g.sz x + 1
      rw [(n hx).2]
  unfold mw
  rw [this]
  rfl
end
/-- the classes of D, by their shortest words -/
structure Fin (D : List Wd) (g : G) (rep : Nat → Wd) : Prop where
  inv : Inv (LC D) g rep
  so : ∀ i j, i < j → j < g.n → slx (mw g rep i) (mw g rep j)
theorem fin_of {D : List Wd} {g : G} {rep : Nat → Wd} {os : List Nat} {at_ : Nat} {P : Nat → Prop} (I : Inv (LC D) g rep) (B : Bf g rep os at_ P) (h : os.length ≤ at_) : Fin D (reG g os) (reR rep os) := by
  have full : ∀ x, x < g.n → x ∈ os := fun x hx => Bf.full I B h _ (Nat.le_refl _) hx
  refine ⟨I.reorder B.nd B.lt full (by rw [List.getD_eq_getElem?_getD, B.h0]; rfl), fun i j hij hj => ?_⟩
  have hj : j < g.n := hj
  have hl := re_len B.nd B.lt full
  rw [I.re_mw B.nd B.lt full (by omega), I.re_mw B.nd B.lt full hj]
  have h1 : i < os.length := by omega
  have h2 : j < os.length := by omega
  have := List.pairwise_iff_getElem.mp B.so i j h1 h2 hij
  rw [List.getD_eq_getElem?_getD, List.getD_eq_getElem?_getD, List.getElem?_eq_getElem h1, List.getElem?_eq_getElem h2]
  exact this
/-- a link has a less number -/
theorem Fin.lk_lt {D : List Wd} {g : G} {rep : Nat → Wd} (F : Fin D g rep) {i j : Nat} (hi : i < g.n) (e : g.lk i = some j) : j < i := by
  obtain ⟨hj, hz, _⟩ := F.inv.dec hi e
  rcases Nat.lt_trichotomy i j with h | h | h
  · have := F.so i j h hj
    have h1 := F.inv.mw_len hi
    have h2 := F.inv.mw_len hj
    have h3 := F.inv.least_le hj
    have h4 := F.inv.sz j hj
    have h5 : leastSz g i = g.sz j + 1 := by unfold leastSz; rw [e]
    rcases this with q | ⟨q, _⟩ <;> omega
  · subst h; omega
  · exact h
/-! places -/
/-- where a word ends in a text -/
def endsIn (w t : Wd) : List Nat := (List.range (t.length + 1)).filter fun k => w.isSuffixOf (t.take k)
def plc (hs : List (Int × Wd)) (w : Wd) : List (Int × Nat) := hs.flatMap fun q => (endsIn w q.2).map fun k => (q.1, k)
theorem mem_ends {w t : Wd} {k : Nat} : k ∈ endsIn w t ↔ k ≤ t.length ∧ w <:+ t.take k := by
  unfold endsIn
  rw [List.mem_filter, List.mem_range, List.isSuffixOf_iff_suffix]
  exact ⟨fun h => ⟨by omega, h.2⟩, fun h => ⟨by omega, h.2⟩⟩
theorem mem_plc {hs : List (Int × Wd)} {w : Wd} {m : Int} {k : Nat} : (m, k) ∈ plc hs w ↔ ∃ t, (m, t) ∈ hs ∧ k ≤ t.length ∧ w <:+ t.take k := by
  unfold plc
  rw [List.mem_flatMap]
  constructor
  · rintro ⟨⟨n, t⟩, h1, h2⟩
    obtain ⟨j, hj, e⟩ := List.mem_map.mp h2
    have e1 : n = m := congrArg Prod.fst e
    have e2 : j = k := congrArg Prod.snd e
    subst e1 e2
    exact ⟨t, h1, mem_ends.mp hj⟩
  · rintro ⟨t, h1, h2⟩
    exact ⟨(m, t), h1, List.mem_map.mpr ⟨k, mem_ends.mpr h2, rfl⟩⟩
/-- the places' order -/
def plt (p q : Int × Nat) : Prop := p.1 < q.1 ∨ (p.1 = q.1 ∧ p.2 < q.2)
theorem plc_sorted : ∀ {hs : List (Int × Wd)}, (hs.map (·.1)).Pairwise (· < ·) → ∀ w, (plc hs w).Pairwise plt
  | [], _, w => List.Pairwise.nil
  | q :: r, h, w => by
    rw [List.map_cons, List.pairwise_cons] at h
    show ((endsIn w q.2).map (fun k => (q.1, k)) ++ plc r w).Pairwise plt
    rw [List.pairwise_append]
    refine ⟨?_, plc_sorted h.2 w, fun a ha b hb => ?_⟩
    · rw [List.pairwise_map]
      have : (endsIn w q.2).Pairwise (· < ·) := List.Pairwise.filter _ List.pairwise_lt_range
      exact this.imp fun h => .inr ⟨rfl, h⟩
    · obtain ⟨k, _, rfl⟩ := List.mem_map.mp ha
      obtain ⟨m, j⟩ := b
      obtain ⟨t, ht, _⟩ := mem_plc.mp hb
      exact .inl (h.1 m (List.mem_map.mpr ⟨(m, t), ht, rfl⟩))
theorem plt_irr {p : Int × Nat} (h : plt p p) : False := by
  rcases h with h | ⟨_, h⟩ <;> omega
theorem plt_asym {p q : Int × Nat} (h1 : plt p q) (h2 : plt q p) : False := by
  rcases h1 with h1 | ⟨e, h1⟩ <;> rcases h2 with h2 | ⟨e2, h2⟩ <;> omega
theorem nd_plt {l : List (Int × Nat)} (h : l.Pairwise plt) : l.Nodup := by
  refine List.Pairwise.imp ?_ h
  intro a b h e
  rw [e] at h
  exact plt_irr h
/-- a list of the same places, in order, is the list -/
theorem plc_eq {l m : List (Int × Nat)} (h1 : l.Pairwise plt) (h2 : m.Pairwise plt) (h : ∀ q, q ∈ l ↔ q ∈ m) : l = m :=
  List.Perm.eq_of_pairwise (fun a b _ _ h1 h2 => (plt_asym h1 h2).elim) h1 h2 ((List.perm_ext_iff_of_nodup (nd_plt h1) (nd_plt h2)).mpr h)
/-- the texts of a house, the empty one besides -/
def txs (hs : List (Int × Wd)) : List Wd := [] :: hs.map (·.2)
theorem txs_mem {hs : List (Int × Wd)} {m : Int} {t : Wd} (h : (m, t) ∈ hs) : t ∈ txs hs := List.mem_cons_of_mem _ (List.mem_map.mpr ⟨(m, t), h, rfl⟩)
theorem inner_plc {hs : List (Int × Wd)} (ne : hs ≠ []) {w : Wd} : Inner (txs hs) w ↔ ∃ q, q ∈ plc hs w := by
  constructor
  · rintro ⟨t, m, x, y, e⟩
    rcases List.mem_cons.mp m with z | m
    · have : w = [] := inner_nil.mp ⟨t, by rw [z]; simp, x, y, e⟩
      obtain ⟨⟨n, s⟩, hq⟩ := List.exists_mem_of_ne_nil hs ne
      exact ⟨(n, 0), mem_plc.mpr ⟨s, hq, Nat.zero_le _, by rw [this]; exact List.nil_suffix⟩⟩
    · obtain ⟨⟨n, s⟩, hq, rfl⟩ := List.mem_map.mp m
      refine ⟨(n, x.length + w.length), mem_plc.mpr ⟨s, hq, ?_, ?_⟩⟩
      · have := congrArg List.length e
        simp at this
        omega
      · have : s = (x ++ w) ++ y := e
        rw [this, List.take_left' (by simp)]
        exact ⟨x, rfl⟩
  · rintro ⟨⟨m, k⟩, hq⟩
    obtain ⟨t, ht, hk, x, e⟩ := mem_plc.mp hq
    exact ⟨t, txs_mem ht, x, t.drop k, by rw [e, List.take_append_drop]⟩
theorem plc_ext {hs : List (Int × Wd)} {u v : Wd} (h : Ext (LC (txs hs)) u v) : plc hs u = plc hs v := by
  have key : ∀ q ∈ hs, endsIn u q.2 = endsIn v q.2 := fun ⟨m, t⟩ hq => by
    refine List.filter_congr fun k _ => ?_
    refine Bool.eq_iff_iff.mpr ?_
    rw [List.isSuffixOf_iff_suffix, List.isSuffixOf_iff_suffix]
    constructor
    · rintro ⟨x, e⟩
      obtain ⟨x', e'⟩ := h.occ (txs_mem hq) (x := x) (y := t.drop k) (by rw [e, List.take_append_drop])
      refine ⟨x', ?_⟩
      have e2 : t.take k ++ t.drop k = (x' ++ v) ++ t.drop k := by rw [List.take_append_drop]; exact e'
      exact (List.append_inj' e2 rfl).1.symm
    · exact fun s => h.2.1.trans s
  unfold plc
  rw [List.flatMap_def, List.flatMap_def]
  congr 1
  refine List.map_congr_left fun q hq => ?_
  rw [key q hq]
/-- unlike classes end at unlike places -/
theorem plc_inj {hs : List (Int × Wd)} (ne : hs ≠ []) (asc : (hs.map (·.1)).Pairwise (· < ·)) {u v : Wd} (hu : LC (txs hs) u) (hv : LC (txs hs) v) (e : plc hs u = plc hs v) : u = v := by
  have one : ∀ {u v : Wd}, LC (txs hs) u → plc hs u = plc hs v → u <:+ v → u = v := fun {u v} hu e s => by
    refine Classical.byContradiction fun n => ?_
    have uniq : ∀ {m t t'}, (m, t) ∈ hs → (m, t') ∈ hs → t = t' := fun {m t t'} h1 h2 => by
      obtain ⟨i, hi, ei⟩ := List.getElem_of_mem h1
      obtain ⟨j, hj, ej⟩ := List.getElem_of_mem h2
      have nd : (hs.map (·.1)).Nodup := asc.imp fun h e => by rw [e] at h; omega
      have : (hs.map (·.1))[i]? = (hs.map (·.1))[j]? := by
        rw [List.getElem?_map, List.getElem?_map, List.getElem?_eq_getElem hi, List.getElem?_eq_getElem hj, ei, ej]
        rfl
      have := (List.getElem?_inj (by rw [List.length_map]; exact hi) nd).mp this
      subst this
      rw [ei] at ej
      exact congrArg Prod.snd ej
    have tr : ∀ {m t k}, (m, t) ∈ hs → k ≤ t.length → u <:+ t.take k → v <:+ t.take k := fun {m t k} h1 h2 h3 => by
      have := mem_plc.mpr ⟨t, h1, h2, h3⟩
      rw [e] at this
      obtain ⟨t', h4, _, h5⟩ := mem_plc.mp this
      exact uniq h1 h4 ▸ h5
    obtain ⟨d, hd⟩ := suf_cons s n
    have hlen : u.length < v.length := by
      have := hd.length_le
      rw [List.length_cons] at this
      exact this
    -- what stands ahead of u
    have ahead : ∀ a, Inner (txs hs) (a :: u) → a = d := fun a ia => by
      obtain ⟨⟨m, k⟩, hq⟩ := (inner_plc ne).mp ia
      obtain ⟨t, ht, hk, h3⟩ := mem_plc.mp hq
      have h4 := tr ht hk (List.IsSuffix.trans ⟨[a], rfl⟩ h3)
      exact cons_suf_inj h3 (hd.trans h4)
    rcases hu with ⟨t, m, y, et⟩ | ⟨a, b, nab, ha, hb⟩
    · rcases List.mem_cons.mp m with z | m
      · have hu0 : u = [] := by
          rw [z] at et
          have := congrArg List.length et
          simp at this
          exact List.eq_nil_of_length_eq_zero (by omega)
        obtain ⟨⟨k, t'⟩, hq⟩ := List.exists_mem_of_ne_nil hs ne
        have := (tr hq (Nat.zero_le _) (by rw [hu0]; exact List.nil_suffix)).length_le
        rw [List.take_zero, List.length_nil] at this
        omega
      · obtain ⟨⟨k, t'⟩, hq, rfl⟩ := List.mem_map.mp m
        have et : t' = u ++ y := et
        have := (tr (k := u.length) hq (by rw [et]; simp) (by rw [et, List.take_left' rfl]; exact List.suffix_refl _)).length_le
        rw [et, List.take_left' rfl] at this
        omega
    · exact nab ((ahead a ha).trans (ahead b hb).symm)
  obtain ⟨⟨m, k⟩, hq⟩ := (inner_plc ne).mp hu.inner
  obtain ⟨t, ht, hk, h3⟩ := mem_plc.mp hq
  have hq2 := e ▸ hq
  obtain ⟨t', ht', hk', h3'⟩ := mem_plc.mp hq2
  have uniq : t = t' := by
    obtain ⟨i, hi, ei⟩ := List.getElem_of_mem ht
    obtain ⟨j, hj, ej⟩ := List.getElem_of_mem ht'
    have nd : (hs.map (·.1)).Nodup := asc.imp fun h e => by rw [e] at h; omega
    have : (hs.map (·.1))[i]? = (hs.map (·.1))[j]? := by
      rw [List.getElem?_map, List.getElem?_map, List.getElem?_eq_getElem hi, List.getElem?_eq_getElem hj, ei, ej]
      rfl
    have := (List.getElem?_inj (by rw [List.length_map]; exact hi) nd).mp this
    subst this
    rw [ei] at ej
    exact congrArg Prod.snd ej
  subst uniq
  rcases suf_tot h3 h3' with s | s
  · exact one hu e s
  · exact (one hv e.symm s).symm
end Sam
set_option linter.all false
/-! Places gathered along links; classes found word by word. -/
namespace Sam
/-- q is the place where the beginning v of a text ends -/
def dirP (hs : List (Int × Wd)) (v : Wd) (q : Int × Nat) : Prop := ∃ t, (q.1, t) ∈ hs ∧ q.2 ≤ t.length ∧ t.take q.2 = v
structure Row (hs : List (Int × Wd)) (g : G) (rep : Nat → Wd) (i k : Nat) (r : List (Int × Nat)) : Prop where
  nd : r.Nodup
  mem : ∀ q, q ∈ r ↔ dirP hs (rep k) q ∨ ∃ j, i ≤ j ∧ j < g.n ∧ g.lk j = some k ∧ q ∈ plc hs (rep j)
theorem uniq_text {hs : List (Int × Wd)} (asc : (hs.map (·.1)).Pairwise (· < ·)) {m : Int} {t t' : Wd} (h1 : (m, t) ∈ hs) (h2 : (m, t') ∈ hs) : t = t' := by
  obtain ⟨i, hi, ei⟩ := List.getElem_of_mem h1
  obtain ⟨j, hj, ej⟩ := List.getElem_of_mem h2
  have nd : (hs.map (·.1)).Nodup := asc.imp fun h e => by rw [e] at h; omega
  have : (hs.map (·.1))[i]? = (hs.map (·.1))[j]? := by
    rw [List.getElem?_map, List.getElem?_map, List.getElem?_eq_getElem hi, List.getElem?_eq_getElem hj, ei, ej]
    rfl
  have := (List.getElem?_inj (by rw [List.length_map]; exact hi) nd).mp this
  subst this
  rw [ei] at ej
  exact congrArg Prod.snd ej
theorem take_pre {hs : List (Int × Wd)} {m : Int} {t : Wd} (h : (m, t) ∈ hs) (k : Nat) : LC (txs hs) (t.take k) := .inl ⟨t, txs_mem h, t.drop k, (List.take_append_drop k t).symm⟩
section
variable {hs : List (Int × Wd)} {g : G} {rep : Nat → Wd} (asc : (hs.map (·.1)).Pairwise (· < ·)) (F : Fin (txs hs) g rep)
include asc F
theorem plc_tree {k : Nat} (hk : k < g.n) (q : Int × Nat) : q ∈ plc hs (rep k) ↔ dirP hs (rep k) q ∨ ∃ j, j < g.n ∧ g.lk j = some k ∧ q ∈ plc hs (rep j) := by
  obtain ⟨m, st⟩ := q
  constructor
  · intro h
    obtain ⟨t, ht, hst, s⟩ := mem_plc.mp h
    by_cases e : rep k = t.take st
    · exact .inl ⟨t, ht, hst, e.symm⟩
    · right
      obtain ⟨a, ha⟩ := suf_cons s e
      have hx := take_pre ht st
      obtain ⟨v, hv⟩ := (hx.inner.suf ha).ext
      obtain ⟨j, hj, ej⟩ := (F.inv.lc v).mp hv.1
      subst ej
      obtain ⟨x, ex⟩ := ha
      obtain ⟨x', ex'⟩ := hv.occ (txs_mem ht) (x := x) (y := t.drop st) (by rw [ex, List.take_append_drop])
      have sv : rep j <:+ t.take st := ⟨x', (List.append_inj' (show t.take st ++ t.drop st = (x' ++ rep j) ++ t.drop st by rw [List.take_append_drop]; exact ex') rfl).1.symm⟩
      refine ⟨j, hj, (F.inv.lk j hj k).mpr ⟨hk, F.inv.mem hk, List.IsSuffix.trans ⟨[a], rfl⟩ hv.2.1, fun z => ?_, fun y ly h1 h2 => ?_⟩, mem_plc.mpr ⟨t, ht, hst, sv⟩⟩
      · have := hv.2.1.length_le
        rw [← z, List.length_cons] at this
        omega
      · rcases suf_tot h1 hv.2.1 with c | c
        · rcases List.suffix_cons_iff.mp c with z | c
          · exact absurd (hv.2.2 y ly (z ▸ List.suffix_refl _) h1) h2
          · exact c
        · exact absurd (hv.2.2 y ly c h1) h2
  · rintro (⟨t, ht, hst, e⟩ | ⟨j, hj, ej, h⟩)
    · exact mem_plc.mpr ⟨t, ht, hst, e ▸ List.suffix_refl _⟩
    · obtain ⟨t, ht, hst, s⟩ := mem_plc.mp h
      exact mem_plc.mpr ⟨t, ht, hst, (F.inv.dec hj ej).2.2.1.trans s⟩
theorem Row.full {i k : Nat} {r : List (Int × Nat)} (R : Row hs g rep i k r) (hk : k < g.n) (hi : i ≤ k + 1) (q : Int × Nat) : q ∈ r ↔ q ∈ plc hs (rep k) := by
  rw [R.mem, plc_tree asc F hk]
  constructor
  · rintro (h | ⟨j, _, h⟩)
    · exact .inl h
    · exact .inr ⟨j, h⟩
  · rintro (h | ⟨j, hj, e, h⟩)
    · exact .inl h
    · have := F.lk_lt hj e
      exact .inr ⟨j, by omega, hj, e, h⟩
theorem Row.stay {i k : Nat} {r : List (Int × Nat)} (R : Row hs g rep (i + 1) k r) (h : g.lk i ≠ some k) : Row hs g rep i k r := by
  refine ⟨R.nd, fun q => ?_⟩
  rw [R.mem]
  constructor
  · rintro (h | ⟨j, hj, h⟩)
    · exact .inl h
    · exact .inr ⟨j, by omega, h⟩
  · rintro (h1 | ⟨j, hj, h1, h2, h3⟩)
    · exact .inl h1
    · by_cases e : j = i
      · exact absurd (e ▸ h2) h
      · exact .inr ⟨j, by omega, h1, h2, h3⟩
theorem Row.step {i k : Nat} {r s : List (Int × Nat)} (R : Row hs g rep (i + 1) k r) (S : Row hs g rep (i + 1) i s) (hi : i < g.n) (e : g.lk i = some k) : Row hs g rep i k (r ++ s) := by
  have ms := S.full asc F hi (Nat.le_refl _)
  refine ⟨?_, fun q => ?_⟩
  · rw [List.nodup_append]
    refine ⟨R.nd, S.nd, fun a ha b hb z => ?_⟩
    subst z
    obtain ⟨m, st⟩ := a
    have h1 := (ms _).mp hb
    obtain ⟨t, ht, hst, s1⟩ := mem_plc.mp h1
    obtain ⟨hk, hz, sk, nk⟩ := F.inv.dec hi e
    rcases (R.mem _).mp ha with ⟨t', ht', _, e'⟩ | ⟨j, hj, hjn, ej, h2⟩
    · have := uniq_text asc ht ht'
      subst this
      have e' : t.take st = rep k := e'
      rw [e'] at s1
      exact nk (suf_antisymm sk s1)
    · obtain ⟨t', ht', _, s2⟩ := mem_plc.mp h2
      have := uniq_text asc ht ht'
      subst this
      have l1 := ((F.inv.lk i hi k).mp e).2
      have l2 := ((F.inv.lk j hjn k).mp ej).2
      have ne : rep i ≠ rep j := fun z => by have := F.inv.inj i j hi hjn z; omega
      rcases suf_tot s1 s2 with c | c
      · have h3 := l2.2.2.2 _ (F.inv.mem hi) c ne
        exact nk (suf_antisymm sk h3)
      · have h3 := l1.2.2.2 _ (F.inv.mem hjn) c (Ne.symm ne)
        exact l2.2.2.1 (suf_antisymm l2.2.1 h3)
  · rw [List.mem_append, R.mem, ms]
    constructor
    · rintro ((h | ⟨j, hj, h⟩) | h)
      · exact .inl h
      · exact .inr ⟨j, by omega, h⟩
      · exact .inr ⟨i, Nat.le_refl _, hi, e, h⟩
    · rintro (h1 | ⟨j, hj, h1, h2, h3⟩)
      · exact .inl (.inl h1)
      · by_cases z : j = i
        · exact .inr (z ▸ h3)
        · exact .inl (.inr ⟨j, by omega, h1, h2, h3⟩)
omit asc in
theorem Fin.lk_some {i : Nat} (hi : i < g.n) (h0 : i ≠ 0) : ∃ k, g.lk i = some k ∧ k < i := by
  cases e : g.lk i with
  | none => exact absurd (F.inv.inj i 0 hi F.inv.n0 ((F.inv.lk_none hi e).trans F.inv.r0.symm)) h0
  | some k => exact ⟨k, rfl, F.lk_lt hi e⟩
end
/-! classes, word by word -/
structure Cls (hs : List (Int × Wd)) (g : G) (rep : Nat → Wd) (W : List Wd) (m : Nat) (rows : List (Wd × Wd × List (Int × Nat))) : Prop where
  le : rows.length ≤ g.n
  cut : ∀ k, k < g.n → (k < rows.length ↔ mw g rep k ∈ W.take m)
  row : ∀ k, k < rows.length → ∃ lw, rows[k]? = some (mw g rep k, lw, plc hs (rep k)) ∧ Ext (LC (txs hs)) lw (rep k) ∧ lw ∈ W.take m ∧ ∀ w, w ∈ W.take m → Ext (LC (txs hs)) w (rep k) → w <:+ lw
section
variable {hs : List (Int × Wd)} {g : G} {rep : Nat → Wd} {W : List Wd} (ne : hs ≠ []) (asc : (hs.map (·.1)).Pairwise (· < ·)) (F : Fin (txs hs) g rep) (sW : W.Pairwise slx) (mW : ∀ w, w ∈ W ↔ Inner (txs hs) w)
include ne asc F sW mW
omit ne asc sW mW in
theorem cls_start : Cls hs g rep W 0 [] := ⟨Nat.zero_le _, fun k _ => by simp, fun k h => absurd h (Nat.not_lt_zero _)⟩
omit sW mW in
/-- the places of a word tell its class -/
theorem plc_cls {u : Wd} {j k : Nat} (hj : j < g.n) (hk : k < g.n) (h : Ext (LC (txs hs)) u (rep k)) : plc hs (rep j) = plc hs u ↔ j = k := by
  rw [plc_ext h]
  exact ⟨fun e => F.inv.inj j k hj hk (plc_inj ne asc (F.inv.mem hj) (F.inv.mem hk) e), fun e => e ▸ rfl⟩
theorem Cls.step {m : Nat} {rows : List (Wd × Wd × List (Int × Nat))} (C : Cls hs g rep W m rows) {w : Wd} (hw : W[m]? = some w) :
    ∃ k, k < g.n ∧ Ext (LC (txs hs)) w (rep k) ∧ (k < rows.length → Cls hs g rep W (m + 1) (rows.set k (mw g rep k, w, plc hs w))) ∧ (¬ k < rows.length → k = rows.length ∧ mw g rep k = w ∧ Cls hs g rep W (m + 1) (rows ++ [(w, w, plc hs w)])) := by
  obtain ⟨hm, em⟩ := List.getElem?_eq_some_iff.mp hw
  have wm : w ∈ W := List.mem_of_getElem? hw
  obtain ⟨v, hv⟩ := ((mW w).mp wm).ext
  obtain ⟨k, hk, ek⟩ := (F.inv.lc v).mp hv.1
  subst ek
  have tk : W.take (m + 1) = W.take m ++ [w] := by rw [List.take_add_one, hw]; rfl
  have before : ∀ x, x ∈ W → slx x w → x ∈ W.take m := fun x hx h => by
    obtain ⟨i, hi, ei⟩ := List.getElem_of_mem hx
    have : i < m := by
      refine Classical.byContradiction fun n => ?_
      by_cases z : i = m
      · subst z
        rw [← ei, ← em] at h
        exact slx_irr h
      · have := List.pairwise_iff_getElem.mp sW m i hm hi (by omega)
        rw [ei, em] at this
        exact slx_irr (slx_trans h this)
    exact List.mem_take_iff_getElem.mpr ⟨i, by omega, ei⟩
  have after_ : ∀ x, x ∈ W.take m → slx x w := fun x hx => by
    obtain ⟨i, hi, ei⟩ := List.mem_take_iff_getElem.mp hx
    have := List.pairwise_iff_getElem.mp sW i m (by omega) hm (by omega)
    rwa [ei, em] at this
  have mwW : ∀ j, j < g.n → mw g rep j ∈ W := fun j hj => (mW _).mpr (F.inv.mw_ext hj).inner
  have mw_le := F.inv.mw_le hk hv
  have mw_new : ∀ j, j < g.n → (mw g rep j = w ↔ j = k ∧ mw g rep k = w) := fun j hj => by
    constructor
    · intro e
      have h1 := F.inv.mw_ext hj
      rw [e] at h1
      have := F.inv.inj j k hj hk (h1.uniq hv)
      exact ⟨this, this ▸ e⟩
    · rintro ⟨rfl, e⟩
      exact e
  refine ⟨k, hk, hv, fun hlt => ?_, fun hge => ?_⟩
  · have in_ := (C.cut k hk).mp hlt
    have mne : mw g rep k ≠ w := fun e => slx_irr (e ▸ after_ _ in_)
    refine ⟨by rw [List.length_set]; exact C.le, fun j hj => ?_, fun j hj => ?_⟩
    · rw [List.length_set, tk, List.mem_append, List.mem_singleton, C.cut j hj]
      exact ⟨.inl, fun h => h.elim id fun e => absurd ((mw_new j hj).mp e).2 mne⟩
    · rw [List.length_set] at hj
      have hjn : j < g.n := by have := C.le; omega
      by_cases e : j = k
      · subst e
        refine ⟨w, ?_, hv, by rw [tk]; simp, fun x hx ex => ?_⟩
        · rw [List.getElem?_set_self hj, plc_ext hv]
        · rw [tk] at hx
          rcases List.mem_append.mp hx with h | h
          · rcases suf_tot ex.2.1 hv.2.1 with c | c
            · exact c
            · have h1 := c.length_le
              rcases after_ x h with q | ⟨q, _⟩
              · omega
              · exact (c.eq_of_length q.symm) ▸ List.suffix_refl _
          · rw [List.mem_singleton.mp h]
            exact List.suffix_refl _
      · obtain ⟨lw, h1, h2, h3, h4⟩ := C.row j hj
        refine ⟨lw, by rw [List.getElem?_set_ne (Ne.symm e)]; exact h1, h2, by rw [tk]; exact List.mem_append_left _ h3, fun x hx ex => ?_⟩
        rw [tk] at hx
        rcases List.mem_append.mp hx with h | h
        · exact h4 x h ex
        · rw [List.mem_singleton.mp h] at ex
          exact absurd (F.inv.inj j k hjn hk (ex.uniq hv)) e
  · have nin : mw g rep k ∉ W.take m := fun h => hge ((C.cut k hk).mpr h)
    have e : mw g rep k = w := by
      refine Classical.byContradiction fun n => nin (before _ (mwW k hk) (.inl ?_))
      refine Nat.lt_of_le_of_ne mw_le.length_le fun z => n (mw_le.eq_of_length z)
    have len : k = rows.length := by
      rcases Nat.lt_trichotomy k rows.length with h | h | h
      · exact absurd h hge
      · exact h
      · have h2 := F.so rows.length k h hk
        have hr : rows.length < g.n := by omega
        rw [e] at h2
        have := (C.cut rows.length hr).mpr (before _ (mwW _ hr) h2)
        omega
    refine ⟨len, e, by rw [List.length_append]; show rows.length + 1 ≤ g.n; omega, fun j hj => ?_, fun j hj => ?_⟩
    · rw [List.length_append, tk, List.mem_append, List.mem_singleton, ← C.cut j hj, mw_new j hj]
      show j < rows.length + 1 ↔ _
      constructor
      · intro h
        by_cases z : j < rows.length
        · exact .inl z
        · exact .inr ⟨by omega, e⟩
      · rintro (h | ⟨h, _⟩) <;> omega
    · rw [List.length_append] at hj
      have hj2 : j < rows.length + 1 := hj
      by_cases z : j < rows.length
      · obtain ⟨lw, h1, h2, h3, h4⟩ := C.row j z
        have hjn : j < g.n := by omega
        refine ⟨lw, by rw [List.getElem?_append_left z]; exact h1, h2, by rw [tk]; exact List.mem_append_left _ h3, fun x hx ex => ?_⟩
        rw [tk] at hx
        rcases List.mem_append.mp hx with h | h
        · exact h4 x h ex
        · rw [List.mem_singleton.mp h] at ex
          have := F.inv.inj j k hjn hk (ex.uniq hv)
          omega
      · have jk : j = k := by omega
        subst jk
        refine ⟨w, ?_, hv, by rw [tk]; simp, fun x hx ex => ?_⟩
        · rw [List.getElem?_append_right (by omega), len]
          have : rows.length - rows.length = 0 := by omega
          rw [this, ← len, e, plc_ext hv]
          rfl
        · rw [tk] at hx
          rcases List.mem_append.mp hx with h | h
          · have := F.inv.mw_le hk ex
            rw [e] at this
            rcases after_ x h with q | ⟨q, _⟩
            · have := this.length_le; omega
            · exact (this.eq_of_length q.symm) ▸ List.suffix_refl _
          · rw [List.mem_singleton.mp h]
            exact List.suffix_refl _
/-- all words gone through -/
theorem Cls.done {rows : List (Wd × Wd × List (Int × Nat))} (C : Cls hs g rep W W.length rows) : rows = (List.range g.n).map fun k => (mw g rep k, rep k, plc hs (rep k)) := by
  have tk : W.take W.length = W := List.take_length
  have len : rows.length = g.n := by
    refine Nat.le_antisymm C.le ?_
    refine Classical.byContradiction fun n => ?_
    have h : rows.length < g.n := by omega
    have := (C.cut rows.length h).mpr (by rw [tk]; exact (mW _).mpr (F.inv.mw_ext h).inner)
    omega
  refine List.ext_getElem? fun k => ?_
  by_cases hk : k < g.n
  · obtain ⟨lw, h1, h2, h3, h4⟩ := C.row k (by omega)
    have := h4 (rep k) (by rw [tk]; exact (mW _).mpr (F.inv.mem hk).inner) (.self (F.inv.mem hk))
    have e := suf_antisymm this h2.2.1
    rw [h1, ← e, List.getElem?_map, List.getElem?_range hk]
    rfl
  · rw [List.getElem?_eq_none (by omega), List.getElem?_eq_none (by rw [List.length_map, List.length_range]; omega)]
end
/-- the link, found by the words -/
theorem Fin.link_word {D : List Wd} {g : G} {rep : Nat → Wd} (F : Fin D g rep) {i k : Nat} (hi : i < g.n) (e : g.lk i = some k) : (mw g rep i).drop 1 = rep k := by
  obtain ⟨hk, hz, s, n⟩ := F.inv.dec hi e
  have hl := F.inv.mw_len hi
  have h2 : leastSz g i = g.sz k + 1 := by unfold leastSz; rw [e]
  have h3 := F.inv.sz k hk
  have s1 : (mw g rep i).drop 1 <:+ rep i := (List.drop_suffix _ _).trans (List.drop_suffix _ _)
  have h4 : ((mw g rep i).drop 1).length = (rep k).length := by rw [List.length_drop]; omega
  exact (suf_of s1 s (by omega)).eq_of_length h4
end Sam
set_option linter.all false
/-! there are such classes, for any texts -/
namespace Sam
theorem inv_letters {D : List Wd} : ∀ (r p : Wd) {g : G} {rep : Nat → Wd} {s : Nat}, Inv (LC (D ++ [p])) g rep → s < g.n → rep s = p → ∃ g' rep', Inv (LC (D ++ [p ++ r])) g' rep'
  | [], p, g, rep, _, I, _, _ => ⟨g, rep, by rw [List.append_nil]; exact I⟩
  | c :: r, p, _, _, _, I, hs, e => by
    obtain ⟨rep2, I2, n2, w2, _, _⟩ := after_ok I (grow_of D p c) hs e
    obtain ⟨g', rep', h⟩ := inv_letters r (p ++ [c]) I2 n2 w2
    exact ⟨g', rep', by rw [List.append_assoc] at h; exact h⟩
theorem inv_texts : ∀ (ts D : List Wd) {g : G} {rep : Nat → Wd}, D ≠ [] → Inv (LC D) g rep → ∃ g' rep', Inv (LC (D ++ ts)) g' rep'
  | [], D, g, rep, _, I => ⟨g, rep, by rw [List.append_nil]; exact I⟩
  | t :: ts, D, _, _, h, I => by
    have I0 := I
    rw [← lc_text h] at I0
    obtain ⟨g1, r1, I1⟩ := inv_letters t [] I0 I0.n0 I0.r0
    rw [List.nil_append] at I1
    obtain ⟨g2, r2, I2⟩ := inv_texts ts (D ++ [t]) (by simp) I1
    exact ⟨g2, r2, by rw [List.append_assoc] at I2; exact I2⟩
theorem inv_ex (hs : List (Int × Wd)) : ∃ g rep, Inv (LC (txs hs)) g rep := by
  have h := inv_texts (hs.map fun q => q.2) [[]] (by simp) inv_start
  exact h
theorem fin_ex (hs : List (Int × Wd)) : ∃ g rep, Fin (txs hs) g rep := by
  obtain ⟨g, rep, I⟩ := inv_ex hs
  let le : Nat → Nat → Bool := fun a b => @decide (¬ slx (mw g rep b) (mw g rep a)) (Classical.propDecidable _)
  have led : ∀ a b, le a b = true ↔ ¬ slx (mw g rep b) (mw g rep a) := fun a b => @decide_eq_true_iff _ (Classical.propDecidable _)
  have srt := List.pairwise_mergeSort (le := le) (fun a b c h1 h2 => by
    rw [led] at h1 h2 ⊢
    intro h3
    rcases slx_tot (mw g rep b) (mw g rep c) with h | h | h
    · exact h1 (slx_trans h h3)
    · exact h1 (h ▸ h3)
    · exact h2 h) (fun a b => by
    rw [Bool.or_eq_true, led, led]
    rcases slx_tot (mw g rep a) (mw g rep b) with h | h | h
    · exact .inl fun z => slx_irr (slx_trans h z)
    · exact .inl fun z => slx_irr (h ▸ z)
    · exact .inr fun z => slx_irr (slx_trans h z)) (List.range g.n)
  have pm := List.mergeSort_perm (List.range g.n) le
  generalize (List.range g.n).mergeSort le = os at srt pm
  have nd : os.Nodup := pm.nodup_iff.mpr List.nodup_range
  have lt : ∀ x ∈ os, x < g.n := fun x hx => List.mem_range.mp (pm.mem_iff.mp hx)
  have full : ∀ x, x < g.n → x ∈ os := fun x hx => pm.mem_iff.mpr (List.mem_range.mpr hx)
  have so : os.Pairwise (fun a b => slx (mw g rep a) (mw g rep b)) := by
    refine List.Pairwise.imp_of_mem (fun {a b} ha hb h => ?_) (srt.and nd)
    obtain ⟨h1, h2⟩ := h
    rw [led] at h1
    rcases slx_tot (mw g rep a) (mw g rep b) with h | h | h
    · exact h
    · exact absurd (I.mw_inj (lt a ha) (lt b hb) h) h2
    · exact absurd h h1
  have h0 : os.getD 0 0 = 0 := by
    cases e : os with
    | nil => rfl
    | cons x r =>
      show x = 0
      have m0 := full 0 I.n0
      rw [e] at m0 so
      rcases List.mem_cons.mp m0 with z | z
      · exact z.symm
      · have := (List.pairwise_cons.mp so).1 0 z
        rw [I.mw_zero] at this
        rcases this with q | ⟨_, q⟩
        · exact absurd q (Nat.not_lt_zero _)
        · exact absurd q (List.not_lt_nil _)
  refine ⟨_, _, I.reorder nd lt full h0, fun i j hij hj => ?_⟩
  have hj : j < g.n := hj
  have hl := re_len nd lt full
  rw [I.re_mw nd lt full (by omega), I.re_mw nd lt full hj]
  have h1 : i < os.length := by omega
  have h2 : j < os.length := by omega
  have := List.pairwise_iff_getElem.mp so i j h1 h2 hij
  rw [List.getD_eq_getElem?_getD, List.getD_eq_getElem?_getD, List.getElem?_eq_getElem h1, List.getElem?_eq_getElem h2]
  exact this
end Sam
set_option linter.all false
/-! there is one way to number the classes -/
namespace Sam
def Mw (D : List Wd) (w : Wd) : Prop := ∃ v, Ext (LC D) w v ∧ ∀ u, Ext (LC D) u v → w <:+ u
theorem Fin.mw_iff {D : List Wd} {g : G} {rep : Nat → Wd} (F : Fin D g rep) (w : Wd) : w ∈ (List.range g.n).map (mw g rep) ↔ Mw D w := by
  constructor
  · intro h
    obtain ⟨k, hk, rfl⟩ := List.mem_map.mp h
    have hk := List.mem_range.mp hk
    exact ⟨rep k, F.inv.mw_ext hk, fun u hu => F.inv.mw_le hk hu⟩
  · rintro ⟨v, h1, h2⟩
    obtain ⟨k, hk, rfl⟩ := (F.inv.lc v).mp h1.1
    exact List.mem_map.mpr ⟨k, List.mem_range.mpr hk, suf_antisymm (F.inv.mw_le hk h1) (h2 _ (F.inv.mw_ext hk))⟩
theorem Fin.sorted {D : List Wd} {g : G} {rep : Nat → Wd} (F : Fin D g rep) : ((List.range g.n).map (mw g rep)).Pairwise slx := by
  rw [List.pairwise_iff_getElem]
  intro i j hi hj h
  rw [List.length_map, List.length_range] at hi hj
  rw [List.getElem_map, List.getElem_map, List.getElem_range, List.getElem_range]
  exact F.so i j h hj
theorem slx_nd {l : List Wd} (h : l.Pairwise slx) : l.Nodup := by
  refine List.Pairwise.imp ?_ h
  intro a b h e
  rw [e] at h
  exact slx_irr h
theorem slx_eq {l m : List Wd} (h1 : l.Pairwise slx) (h2 : m.Pairwise slx) (h : ∀ q, q ∈ l ↔ q ∈ m) : l = m :=
  List.Perm.eq_of_pairwise (fun a b _ _ h1 h2 => (slx_irr (slx_trans h1 h2)).elim) h1 h2 ((List.perm_ext_iff_of_nodup (slx_nd h1) (slx_nd h2)).mpr h)
structure SameG (g : G) (rep : Nat → Wd) (g' : G) (rep' : Nat → Wd) : Prop where
  n : g.n = g'.n
  mw : ∀ k, k < g.n → mw g rep k = mw g' rep' k
  rep : ∀ k, k < g.n → rep k = rep' k
  ed : ∀ k, k < g.n → ∀ c, g.ed k c = g'.ed k c
  lk : ∀ k, k < g.n → g.lk k = g'.lk k
theorem opt_iff {a b : Option Nat} (h : ∀ j, a = some j ↔ b = some j) : a = b := by
  cases a with
  | none =>
    cases b with
    | none => rfl
    | some j => exact absurd ((h j).mpr rfl) (by simp)
  | some i => exact ((h i).mp rfl).symm
theorem Fin.uniq {D : List Wd} {g g' : G} {rep rep' : Nat → Wd} (F : Fin D g rep) (F' : Fin D g' rep') : SameG g rep g' rep' := by
  have e := slx_eq F.sorted F'.sorted fun w => (F.mw_iff w).trans (F'.mw_iff w).symm
  have hn : g.n = g'.n := by
    have := congrArg List.length e
    simpa using this
  have hm : ∀ k, k < g.n → Sam.mw g rep k = Sam.mw g' rep' k := fun k hk => by
    have := congrArg (fun l => l[k]?) e
    simp only [List.getElem?_map, List.getElem?_range hk, List.getElem?_range (hn ▸ hk)] at this
    exact Option.some.inj this
  have hr : ∀ k, k < g.n → rep k = rep' k := fun k hk => by
    have h1 := F.inv.mw_ext hk
    have h2 := F'.inv.mw_ext (hn ▸ hk)
    rw [← hm k hk] at h2
    exact h1.uniq h2
  refine ⟨hn, hm, hr, fun k hk c => opt_iff fun j => ?_, fun k hk => opt_iff fun j => ?_⟩
  · rw [F.inv.ed k hk, F'.inv.ed k (hn ▸ hk), ← hn, ← hr k hk]
    constructor
    · rintro ⟨h1, h2⟩
      exact ⟨h1, hr j h1 ▸ h2⟩
    · rintro ⟨h1, h2⟩
      exact ⟨h1, by rw [hr j h1]; exact h2⟩
  · rw [F.inv.lk k hk, F'.inv.lk k (hn ▸ hk), ← hn, ← hr k hk]
    constructor
    · rintro ⟨h1, h2⟩
      exact ⟨h1, hr j h1 ▸ h2⟩
    · rintro ⟨h1, h2⟩
      exact ⟨h1, by rw [hr j h1]; exact h2⟩
end Sam
set_option Elab.async false
set_option linter.all false
set_option maxRecDepth 100000
set_option maxHeartbeats 4000000
/-! the longest, of several the first -/
namespace SH
open PySem PySem.Spec PyProof.Rows L2
/-- y is not ahead of z: shorter, or as long and not less -/
def leLng (z y : Str) : Prop := y.length < z.length ∨ (y.length = z.length ∧ z.cps.toList ≤ y.cps.toList)
def IsLong (p : Str → Prop) : Option Str → Prop
  | none => ∀ z, p z → z = Str.empty
  | some z => p z ∧ z ≠ Str.empty ∧ ∀ y, p y → leLng z y
theorem leLng_anti {x y : Str} (h1 : leLng x y) (h2 : leLng y x) : x = y := by
  rcases h1 with a | ⟨a, b⟩ <;> rcases h2 with c | ⟨c, d⟩
  · omega
  · omega
  · omega
  · exact str_ext (List.le_antisymm b d)
theorem isLong_uniq {p : Str → Prop} : ∀ {a b : Option Str}, IsLong p a → IsLong p b → a = b
  | none, none, _, _ => rfl
  | none, some z, h, k => absurd (h z k.1) k.2.1
  | some z, none, h, k => absurd (k z h.1) h.2.1
  | some z, some y, h, k => by rw [leLng_anti (h.2.2 y k.1) (k.2.2 z h.1)]
theorem isLong_cong {p q : Str → Prop} (e : ∀ z, p z ↔ q z) : ∀ {a : Option Str}, IsLong p a → IsLong q a
  | none, h => fun z hz => h z ((e z).mpr hz)
  | some z, h => ⟨(e z).mp h.1, h.2.1, fun y hy => h.2.2 y ((e y).mpr hy)⟩
def vO : Option Str → V
  | none => .non
  | some z => .str z
theorem vO_inj : ∀ {a b : Option Str}, vO a = vO b → a = b
  | none, none, _ => rfl
  | some x, some y, h => by rw [V.str.inj h]
  | none, some y, h => by cases h
  | some x, none, h => by cases h
/-- gone through in the order of texts -/
structure LngSo (l : List Str) (b : Str) : Prop where
  le : ∀ y ∈ l, leLng b y
  has : b = Str.empty ∨ b ∈ l
theorem emp_len {z : Str} : z.length = 0 ↔ z = Str.empty := ⟨fun h => tl_inj (List.eq_nil_of_length_eq_zero h), fun h => by rw [h]; rfl⟩
theorem LngSo.nil : LngSo [] Str.empty := ⟨(fun y m => nomatch m), .inl rfl⟩
theorem LngSo.step {l : List Str} {b w : Str} (h : LngSo l b) (asc : ∀ y ∈ l, y.cps.toList ≤ w.cps.toList) : LngSo (l ++ [w]) (if w.length > b.length then w else b) := by
  by_cases c : w.length > b.length
  · rw [if_pos c]
    refine ⟨fun y hy => ?_, .inr (by simp)⟩
    rcases List.mem_append.mp hy with m | m
    · rcases h.le y m with a | ⟨a, _⟩
      · exact .inl (by omega)
      · exact .inl (by omega)
    · rw [List.mem_singleton.mp m]
      exact .inr ⟨rfl, List.le_refl _⟩
  · rw [if_neg c]
    refine ⟨fun y hy => ?_, h.has.imp id fun m => List.mem_append_left _ m⟩
    rcases List.mem_append.mp hy with m | m
    · exact h.le y m
    · rw [List.mem_singleton.mp m]
      rcases Nat.lt_or_ge w.length b.length with d | d
      · exact .inl d
      · refine .inr ⟨by omega, ?_⟩
        rcases h.has with e | m2
        · have : w = Str.empty := emp_len.mp (by rw [e] at c; have : (Str.empty).length = 0 := rfl; omega)
          rw [e, this]
          exact List.le_refl _
        · exact asc b m2
theorem LngSo.done {l : List Str} {b : Str} (h : LngSo l b) : IsLong (· ∈ l) (if b = Str.empty then none else some b) := by
  by_cases c : b = Str.empty
  · rw [if_pos c]
    intro z hz
    have := h.le z hz
    rw [c] at this
    rcases this with a | ⟨a, _⟩
    · exact absurd a (Nat.not_lt_zero _)
    · exact emp_len.mp a
  · rw [if_neg c]
    exact ⟨h.has.resolve_left c, c, h.le⟩
/-! ### pairs of a size below 0 and a text -/
def eNeg (z : Str) : PyData := .tuple [.int (-(z.length : Int)), .str z]
theorem eNeg_lt (x y : Str) : PySem.W.dataLt (eNeg x) (eNeg y) = decide (y.length < x.length ∨ (x.length = y.length ∧ x.cps.toList < y.cps.toList)) := by
  unfold eNeg
  rw [PySem.W.dataLt_tuple, PySem.W.dataLt_cons (by simp [PySem.W.alike]), PySem.W.dataLt_cons (by simp [PySem.W.alike])]
  have e : PyProof.Rows.lexLt itemOrd (PySem.W.keyToksAll []) (PySem.W.keyToksAll []) = false := lex_irrefl _
  rw [e, eqv_int, eqv_str, PySem.W.dataLt_int, PySem.W.dataLt_str]
  by_cases a : x.length = y.length
  · have a2 : (-(x.length : Int)) = -(y.length : Int) := by omega
    by_cases b : x = y
    · rw [decide_eq_true a2, decide_eq_true b]
      symm
      refine decide_eq_false ?_
      rintro (h | ⟨_, h⟩)
      · omega
      · rw [b] at h
        exact List.lt_irrefl _ h
    · rw [decide_eq_true a2, decide_eq_false b]
      show decide (x.cps.toList < y.cps.toList) = _
      exact decide_eq_decide.mpr ⟨fun h => .inr ⟨a, h⟩, fun h => h.elim (fun h => by omega) fun h => h.2⟩
  · have a2 : ¬ (-(x.length : Int)) = -(y.length : Int) := by omega
    rw [decide_eq_false a2]
    show decide (-(x.length : Int) < -(y.length : Int)) = _
    exact decide_eq_decide.mpr ⟨fun h => .inl (by omega), fun h => h.elim (fun h => by omega) fun h => absurd h.1 a⟩
theorem eNeg_le {x y : Str} : PySem.W.dataLe false eNeg x y = true ↔ leLng x y := by
  show (!PySem.W.dataLt (eNeg y) (eNeg x)) = true ↔ _
  rw [eNeg_lt]
  constructor
  · intro h
    have h : ¬ (x.length < y.length ∨ (y.length = x.length ∧ y.cps.toList < x.cps.toList)) := fun z => by rw [decide_eq_true z] at h; cases h
    rcases Nat.lt_trichotomy x.length y.length with c | c | c
    · exact absurd (.inl c) h
    · exact .inr ⟨c.symm, List.not_lt.mp fun z => h (.inr ⟨c.symm, z⟩)⟩
    · exact .inl c
  · intro h
    rw [decide_eq_false]
    · rfl
    · rintro (a | ⟨a, b⟩) <;> rcases h with c | ⟨c, d⟩
      · omega
      · omega
      · omega
      · exact absurd b (List.not_lt.mpr d)
theorem leLng_tr {x y z : Str} (h : leLng x y) (k : leLng y z) : leLng x z := by
  rcases h with a | ⟨a, b⟩ <;> rcases k with c | ⟨c, d⟩
  · exact .inl (by omega)
  · exact .inl (by omega)
  · exact .inl (by omega)
  · exact .inr ⟨by omega, List.le_trans b d⟩
theorem leLng_tot (x y : Str) : leLng x y ∨ leLng y x := by
  rcases Nat.lt_trichotomy x.length y.length with c | c | c
  · exact .inr (.inl c)
  · rcases List.le_total x.cps.toList y.cps.toList with d | d
    · exact .inl (.inr ⟨c.symm, d⟩)
    · exact .inr (.inr ⟨c, d⟩)
  · exact .inl (.inl c)
theorem leLng_refl (x : Str) : leLng x x := .inr ⟨rfl, List.le_refl _⟩
theorem eNeg_sort (l : List Str) : (l.mergeSort (PySem.W.dataLe false eNeg)).Pairwise leLng := by
  refine (List.pairwise_mergeSort (le := PySem.W.dataLe false eNeg) (fun x y z a b => eNeg_le.mpr (leLng_tr (eNeg_le.mp a) (eNeg_le.mp b))) (fun x y => ?_) l).imp fun h => eNeg_le.mp h
  rcases leLng_tot x y with h | h
  · rw [eNeg_le.mpr h]; rfl
  · rw [eNeg_le.mpr h, Bool.or_true]
theorem first_long {l : List Str} {z : Str} {r : List Str} (h : l.mergeSort (PySem.W.dataLe false eNeg) = z :: r) (ne : ∀ y ∈ l, y ≠ Str.empty) : IsLong (· ∈ l) (some z) := by
  have pm := List.mergeSort_perm l (PySem.W.dataLe false eNeg)
  have pw := eNeg_sort l
  rw [h] at pm pw
  have zm : z ∈ l := pm.mem_iff.mp (List.mem_cons_self ..)
  refine ⟨zm, ne z zm, fun y hy => ?_⟩
  rcases List.mem_cons.mp (pm.mem_iff.mpr hy) with e | m
  · rw [e]
    exact leLng_refl _
  · exact (List.pairwise_cons.mp pw).1 y m
/-! ### classes -/
def cntO (h : List (Int × Str)) (z : Str) : Nat := ((occ h).filter fun o => decide (o.1 = z)).length
def hsT (h : List (Int × Str)) : List (Int × Sam.Wd) := h.map fun q => (q.1, TL.tl q.2)
theorem stands_ends {w : Str} {z : Str} (s : Nat) (hs : s ≤ z.length) : standsP w z s = true ↔ s + w.length ∈ Sam.endsIn (TL.tl w) (TL.tl z) := by
  rw [Sam.mem_ends]
  have zl : (TL.tl z).length = z.length := rfl
  have wl : (TL.tl w).length = w.length := rfl
  constructor
  · intro h
    have h1 := stands_le h hs
    have e := of_decide_eq_true h
    refine ⟨by omega, (TL.tl z).take s, ?_⟩
    rw [List.take_add, e]
  · rintro ⟨h1, p, e⟩
    refine decide_eq_true ?_
    rw [List.take_add] at e
    have l1 := congrArg List.length e
    rw [List.length_append, List.length_append, List.length_take, List.length_take, List.length_drop] at l1
    have := (List.append_inj' e (by rw [List.length_take, List.length_drop]; omega)).2
    exact this.symm
theorem endsS_len (w : Str) (z : Str) : (Sam.endsIn (TL.tl w) (TL.tl z)).length = ((List.range (z.length + 1)).filter (standsP w z)).length := by
  have nd1 : ((List.range (z.length + 1)).filter (standsP w z)).Nodup := List.nodup_range.filter _
  have nd2 : (Sam.endsIn (TL.tl w) (TL.tl z)).Nodup := List.nodup_range.filter _
  have wl : (TL.tl w).length = w.length := rfl
  have zl : (TL.tl z).length = z.length := rfl
  rw [← List.length_map (f := fun s => s + w.length) (as := (List.range (z.length + 1)).filter (standsP w z))]
  refine Sam.nd_same nd2 ?_ fun k => ?_
  · rw [List.Nodup, List.pairwise_map]
    exact nd1.imp fun n e => n (by omega)
  · rw [List.mem_map]
    constructor
    · intro hk
      obtain ⟨h1, h2⟩ := Sam.mem_ends.mp hk
      have h3 := h2.length_le
      rw [List.length_take] at h3
      have e : k - w.length + w.length = k := by omega
      refine ⟨k - w.length, List.mem_filter.mpr ⟨List.mem_range.mpr (by omega), (stands_ends _ (by omega)).mpr (by rw [e]; exact hk)⟩, e⟩
    · rintro ⟨s, hs, rfl⟩
      obtain ⟨h1, h2⟩ := List.mem_filter.mp hs
      have := List.mem_range.mp h1
      exact (stands_ends s (by omega)).mp h2
theorem plc_same (w : Str) : ∀ h : List (Int × Str), (Sam.plc (hsT h) (TL.tl w)).length = (plc h w).length
  | [] => rfl
  | q :: r => by
    have ih := plc_same w r
    have e1 : Sam.plc (hsT (q :: r)) (TL.tl w) = (Sam.endsIn (TL.tl w) (TL.tl q.2)).map (fun k => (q.1, k)) ++ Sam.plc (hsT r) (TL.tl w) := rfl
    have e2 : plc (q :: r) w = plcOf w q ++ plc r w := rfl
    rw [e1, e2, List.length_append, List.length_append, ih, List.length_map, endsS_len]
    unfold plcOf
    rw [List.length_map]
theorem cntO_plc {h : List (Int × Str)} {z : Str} (hz : 0 < z.length) : cntO h z = (Sam.plc (hsT h) (TL.tl z)).length := by
  unfold cntO
  rw [occ_cnt hz, plc_same]
/-- what counts for a place's list: how many, or of how many texts -/
theorem occ_iff {h : List (Int × Str)} {z : Str} : z ∈ (occ h).map (·.1) ↔ 0 < z.length ∧ 0 < cntO h z := by
  constructor
  · intro m
    refine ⟨occ_pos m, ?_⟩
    obtain ⟨o, ho, rfl⟩ := List.mem_map.mp m
    unfold cntO
    exact List.length_pos_of_mem (List.mem_filter.mpr ⟨ho, decide_eq_true rfl⟩)
  · rintro ⟨_, h⟩
    unfold cntO at h
    obtain ⟨o, ho⟩ := List.exists_mem_of_length_pos h
    obtain ⟨h1, h2⟩ := List.mem_filter.mp ho
    exact List.mem_map.mpr ⟨o, h1, of_decide_eq_true h2⟩
/-- by the longest words of the classes -/
theorem long_reps {h : List (Int × Str)} (ne : h ≠ []) {g : Sam.G} {rep : Nat → Sam.Wd} (F : Sam.Fin (Sam.txs (hsT h)) g rep) (ok : List (Int × Nat) → Prop) (ok0 : ¬ ok []) {zs : List Str} (hzs : ∀ z, z ∈ zs ↔ ∃ k, k < g.n ∧ ok (Sam.plc (hsT h) (rep k)) ∧ TL.tl z = rep k) :
    ∀ {r : Option Str}, IsLong (· ∈ zs) r → IsLong (fun z => z ∈ (occ h).map (·.1) ∧ ok (Sam.plc (hsT h) (TL.tl z))) r := by
  have ne2 : hsT h ≠ [] := fun e => ne (List.map_eq_nil_iff.mp e)
  have up : ∀ z, (z ∈ (occ h).map (·.1) ∧ ok (Sam.plc (hsT h) (TL.tl z))) → ∃ v ∈ zs, TL.tl z <:+ TL.tl v := fun z hz => by
    obtain ⟨m, hk⟩ := hz
    obtain ⟨p1, p2⟩ := occ_iff.mp m
    rw [cntO_plc p1] at p2
    obtain ⟨q, hq⟩ := List.exists_mem_of_length_pos p2
    obtain ⟨v, hv⟩ := Sam.Inner.ext ((Sam.inner_plc ne2).mpr ⟨q, hq⟩)
    obtain ⟨i, hi, e⟩ := (F.inv.lc v).mp hv.1
    have e2 := Sam.plc_ext hv
    refine ⟨SX.S v, (hzs _).mpr ⟨i, hi, ?_, ?_⟩, ?_⟩
    · rw [e, ← e2]
      exact hk
    · rw [e]
    · exact hv.2.1
  have down : ∀ z ∈ zs, z ≠ Str.empty → z ∈ (occ h).map (·.1) ∧ ok (Sam.plc (hsT h) (TL.tl z)) := fun z hz n => by
    obtain ⟨k, hk, hok, e⟩ := (hzs z).mp hz
    have zp : 0 < z.length := Nat.pos_of_ne_zero fun e => n (emp_len.mp e)
    rw [← e] at hok
    refine ⟨occ_iff.mpr ⟨zp, ?_⟩, hok⟩
    rw [cntO_plc zp]
    refine Nat.pos_of_ne_zero fun e0 => ok0 ?_
    rw [List.eq_nil_of_length_eq_zero e0] at hok
    exact hok
  have sl : ∀ {x y : Str}, TL.tl x <:+ TL.tl y → x.length < y.length ∨ x = y := fun {x y} s => by
    rcases Nat.lt_or_ge x.length y.length with c | c
    · exact .inl c
    · exact .inr (tl_inj (s.eq_of_length (Nat.le_antisymm s.length_le c)))
  intro r hr
  cases r with
  | none =>
    intro z hz
    obtain ⟨v, hv, s⟩ := up z hz
    have := hr v hv
    rw [this] at s
    exact emp_len.mp (Nat.le_zero.mp s.length_le)
  | some b =>
    obtain ⟨h1, h2, h3⟩ := hr
    refine ⟨down b h1 h2, h2, fun y hy => ?_⟩
    obtain ⟨v, hv, s⟩ := up y hy
    rcases sl s with c | e
    · rcases h3 v hv with d | ⟨d, _⟩
      · exact .inl (by omega)
      · exact .inl (by omega)
    · rw [e]
      exact h3 v hv
end SH
set_option Elab.async false
set_option linter.all false
set_option maxRecDepth 100000
set_option maxHeartbeats 4000000
/-! zip of two texts: new pairs of their signs -/
namespace SH
open PySem PySem.Spec PyProof.Rows L2
def pairHere (x y : Str) (i : Nat) (H : Hp) (v : V) (H' : Hp) : Prop := ∃ (T : Addr) (c d : Nat), v = .ref T ∧ H T = none ∧ H' = upd H T (.tup [.str ⟨#[c]⟩, .str ⟨#[d]⟩]) ∧ x.cps[i]? = some c ∧ y.cps[i]? = some d
def Itzs (x y : Str) : It := ⟨fun i _ => i < min x.cps.size y.cps.size, fun i H v H' => pairHere x y i H v H', fun i _ => i = min x.cps.size y.cps.size⟩
def zipsAt (x y : Str) (t u : Tok) (z TI TO i1 i2 : Addr) (i : Nat) (h : Heap) : Prop :=
  IsZip h z TI TO .none ∧ IsTupOf2 h TI (.ref i1) (.ref i2) ∧ (∃ p q, IsTupOf2 h TO p q) ∧ h.IsStrIter i1 (strIterType x) x t i ∧ h.IsStrIter i2 (strIterType y) y u i
theorem turn_zips {P : Program} {w : World} {K : PySem.W.Frag} {es : List Expr} {n : Nat} {ps : Pos} {x y : Str} {t u : Tok} {z TI TO i1 i2 : Addr} (D : ZipSep2 z TI TO i1 i2 [i1] [i2]) :
    Turn P w K (.Tuple es n ps) (Itzs x y) [z, TI, TO, i1, i2] z (zipsAt x y t u z TI TO i1 i2) where
  mem := by simp
  obj := fun i h st c hc => by
    obtain ⟨g0, gI, ⟨p, q, gO⟩, ⟨o1, e1, _, d1⟩, ⟨o2, e2, _, d2⟩⟩ := st
    simp only [List.mem_cons, List.not_mem_nil, or_false] at hc
    rcases hc with rfl | rfl | rfl | rfl | rfl
    · exact ⟨_, g0, fun v q => nomatch q⟩
    · exact ⟨_, gI, fun v q => nomatch q⟩
    · exact ⟨_, gO, fun v q => nomatch q⟩
    · exact ⟨o1, e1, fun v q => by rw [d1] at q; cases q⟩
    · exact ⟨o2, e2, fun v q => by rw [d2] at q; cases q⟩
  keep := fun i h h' st k => by
    obtain ⟨g0, gI, ⟨p, q, gO⟩, ⟨o1, e1, r1⟩, ⟨o2, e2, r2⟩⟩ := st
    exact ⟨k z (by simp) _ g0, k TI (by simp) _ gI, ⟨p, q, k TO (by simp) _ gO⟩, ⟨o1, k i1 (by simp) _ e1, r1⟩, ⟨o2, k i2 (by simp) _ e2, r2⟩⟩
  item := by
    intro X hP hw hK hc i pins s σ H E I hf st hg
    subst hP hw hK
    obtain ⟨g0, gI, ⟨p, q, gO⟩, st1, st2⟩ := st
    have hg' : i < min x.cps.size y.cps.size := hg
    have hh : X.A.in1.handled = none := I.ok.hd hc
    refine wpAny_pyNext_zipD2_item D (Draws.text hh i1 x t) (Draws.text hh i2 y u) g0 gI gO st1 st2 (by omega) (by omega) fun v1 v2 h' tk hv1 hv2 z' TO' st1' st2' hT hsz hk => ?_
    obtain ⟨c, a1, hc1, rfl⟩ := hv1
    obtain ⟨d, a2, hd1, rfl⟩ := hv2
    have hzl : z < s.heap.objs.size := Heap.lt_size g0
    refine ⟨_, rfl, wpAny_letOwnedTupleGo_zip (s := { s with heap := h', toks := tk }) z' fun h2 z2 sb => ?_⟩
    have hT2 : IsTupOf2 h2 s.heap.objs.size (.str ⟨#[c]⟩ a1) (.str ⟨#[d]⟩ a2) := (sb.2 _ (Nat.ne_of_gt hzl)).trans hT
    have new : ObjOk X.prog X.w (upd H s.heap.objs.size (.tup [.str ⟨#[c]⟩, .str ⟨#[d]⟩])) h2 s.heap.objs.size (.tup [.str ⟨#[c]⟩, .str ⟨#[d]⟩]) :=
      ⟨by show 2 ≤ sizeLine; decide, [_, _], .cons ⟨_, rfl⟩ (.cons ⟨_, rfl⟩ .nil), ⟨_, hT2, rfl, _, rfl⟩⟩
    have I1 : Inv X pins σ (upd H s.heap.objs.size (.tup [.str ⟨#[c]⟩, .str ⟨#[d]⟩])) { s with heap := h2, toks := tk } :=
      I.turnedNew (t' := tk) (ch := [z, TI, TO, i1, i2]) (fun b o hb e => by
        simp only [List.mem_cons, List.not_mem_nil, or_false, not_or] at hb
        exact (sb.2 b hb.1).trans (hk b o hb.1 hb.2.2.1 hb.2.2.2.1 hb.2.2.2.2 e)) hf (Nat.le_refl _) new
    refine ⟨.ref s.heap.objs.size, _, I1, rfl, ⟨_, c, d, rfl, I.hok.fresh (Nat.le_refl _), rfl, hc1, hd1⟩, ⟨z2, ?_, ⟨.str ⟨#[c]⟩ a1, .str ⟨#[d]⟩ a2, ?_⟩, ?_, ?_⟩, fun b hb => ?_⟩
    · exact (sb.2 _ D.TIz).trans (hk _ _ D.TIz D.TITO D.TIi1 D.TIi2 gI)
    · exact (sb.2 _ D.TOz).trans TO'
    · obtain ⟨o, e, r⟩ := st1'
      exact ⟨o, (sb.2 _ (Ne.symm D.zi1)).trans e, r⟩
    · obtain ⟨o, e, r⟩ := st2'
      exact ⟨o, (sb.2 _ (Ne.symm D.zi2)).trans e, r⟩
    · have hlt : b < s.heap.objs.size := by
        simp only [List.mem_cons, List.not_mem_nil, or_false] at hb
        rcases hb with rfl | rfl | rfl | rfl | rfl
        · exact hzl
        · exact Heap.lt_size gI
        · exact Heap.lt_size gO
        · obtain ⟨_, e, _⟩ := st1; exact Heap.lt_size e
        · obtain ⟨_, e, _⟩ := st2; exact Heap.lt_size e
      rw [upd_ne (Nat.ne_of_lt hlt)]
      exact (hf b hb).1
  done := by
    intro X hP hw hK hc i pins s σ H E I hf st hg
    subst hP hw hK
    obtain ⟨g0, gI, ⟨p, q, gO⟩, st1, st2⟩ := st
    have hg' : i = min x.cps.size y.cps.size := hg
    have hh : X.A.in1.handled = none := I.ok.hd hc
    exact wpAny_pyNext_zipD2_end D (Draws.text hh i1 x t) (Draws.text hh i2 y u) g0 gI gO st1 st2 (by omega) (by omega) (by omega) fun h' tk hk => ⟨rfl, I.turnedL (t' := tk) (ch := [z, TI, TO, i1, i2]) (fun b o hb e => by
      simp only [List.mem_cons, List.not_mem_nil, or_false, not_or] at hb
      exact hk b o hb.1 hb.2.2.1 hb.2.2.2.1 hb.2.2.2.2 e) hf⟩
  self := fun A i s Q E st h => wpAny_pyIter_zip st.1 h
def iZipS (ta : TA) : TI := fun σ H R => ta σ H fun vs H1 => ∃ x y, vs = [.str x, .str y] ∧ R (Itzs x y) H1
theorem pi_zipS {X : Cx} {e e2 : Expr} {ta : TA} {p pos ps : Pos} {es : List Expr} {n : Nat} (hg : Gl X "zip") (hm : X.mg "zip" = none) (ha : PA X [e, e2] ta)
    (hs : starEach [e, e2] X.env = (false, eval e X.env) :: starEach [e2] X.env := by rfl) (hpl : (backTo pos (starEach [e2] X.env)).any (·.1) = false := by rfl) :
    PI X (.Tuple es n ps) (.Call (.Name "zip" p) [e, e2] [] pos) (iZipS ta) := by
  refine ⟨fun pins s σ H R I h => ?_⟩
  refine Call_ (ld_blt I hg hm PyProof.Rows.boot_zip (PyProof.Rows.callWith_type1 (thn (ha.run pos pins s σ H _ I h) fun us s1 ⟨vs, H1, I1, r1, q1⟩ => ?_) hs hpl))
  obtain ⟨x, y, ex, q⟩ := q1
  subst ex
  obtain ⟨v1, v2, rfl, ⟨t1, rfl⟩, ⟨t2, rfl⟩⟩ := vals2 r1
  refine zip_begins2 (begins_text x t1) (begins_text y t2) trivial trivial fun h' g0 gI gO g1 g2 hsz hk => wpAny_pyIter_zip g0 ?_
  have I2 : Inv X pins σ H1 { s1 with heap := h' } := I1.kept (t' := s1.toks) hk
  refine ⟨s1.heap.objs.size + 4, [s1.heap.objs.size + 4, s1.heap.objs.size + 2, s1.heap.objs.size + 3, s1.heap.objs.size, s1.heap.objs.size + 1], _, _, H1, rfl, I2,
    turn_zips (t := t1) (u := t2) (zip_sep2 (fp1 := []) (fp2 := []) (fun _ h => nomatch h) fun _ h => nomatch h), ⟨g0, gI, ⟨_, _, gO⟩, ⟨_, g1, rfl, rfl⟩, ⟨_, g2, rfl, rfl⟩⟩, fun b hb => ?_, q⟩
  have hle : s1.heap.objs.size ≤ b := by
    simp only [List.mem_cons, List.not_mem_nil, or_false] at hb
    rcases hb with rfl | rfl | rfl | rfl | rfl
    · exact Nat.le_add_right _ _
    · exact Nat.le_add_right _ _
    · exact Nat.le_add_right _ _
    · exact Nat.le_refl _
    · exact Nat.le_add_right _ _
  exact I1.fpOk hle (I1.hok.fresh hle)
theorem walk_zips {x y : Str} : Walk (Itzs x y) (min x.cps.size y.cps.size) (fun _ => True) (pairHere x y) :=
  ⟨fun _ _ hi _ => hi, fun _ _ => rfl, fun _ _ _ _ _ _ q => q⟩
end SH
set_option Elab.async false
set_option linter.all false
set_option maxRecDepth 100000
set_option maxHeartbeats 4000000
/-! plain scans: pairs of a text and a number, the letters behind a word -/
namespace SH
open PySem PySem.Spec PyProof.Rows L2
abbrev ST := List (Addr × Str × Int)
def strefs (R : ST) : List V := R.map fun q => V.ref q.1
def StA (K : PySem.W.Frag) (H : Hp) (R : ST) : Prop := ∀ q ∈ R, SqT K H q.1 [.str q.2.1, .int q.2.2]
theorem StA.same {K : PySem.W.Frag} {H H' : Hp} {R : ST} (h : StA K H R) (e : Same H H') : StA K H' R := fun q hq => same_tup e (h q hq)
theorem StA.put {K : PySem.W.Frag} {H : Hp} {R : ST} {D : Addr} {l : List V} {o : HO} (h : StA K H R) (hD : H D = some (.lst l)) : StA K (upd H D o) R := fun z m => but_tup (l := l) hD but_upd (h z m)
def eSI (p : Str × Int) : PyData := .tuple [.str p.1, .int p.2]
def dSI (l : List (Str × Int)) : PyData := .list (l.map eSI)
theorem dp_sts {K : PySem.W.Frag} {H : Hp} : ∀ (R : ST), StA K H R → DpAll K H (strefs R) ((R.map (·.2)).map eSI)
  | [], _ => .nil
  | q :: r, h => .cons (.tup (h q (List.mem_cons_self ..)) (.cons (.str _) (.cons (.int _) .nil))) (dp_sts r fun x m => h x (List.mem_cons_of_mem _ m))
theorem dp_st {K : PySem.W.Frag} {H : Hp} {a : Addr} {R : ST} (h : SqL K H a (strefs R)) (hq : StA K H R) : Dp K H (.ref a) (dSI (R.map (·.2))) := .lst h (dp_sts R hq)
theorem okd_SI {l : List (Str × Int)} (h : ∀ p ∈ l, IsLet p.1) : Okd (dSI l) := okd_list (fun d hd => by
    obtain ⟨p, hp, rfl⟩ := List.mem_map.mp hd
    exact lay_all fun d hd => by
      simp only [List.mem_cons, List.not_mem_nil, or_false] at hd
      rcases hd with rfl | rfl
      · exact let_ok (h p hp)
      · rfl) fun d hd => by
    obtain ⟨p, hp, rfl⟩ := List.mem_map.mp hd
    show max 0 (max 0 0) + 1 ≤ 59
    decide
theorem sort_st (R : ST) : ((R.map fun z => (V.ref z.1, z.2)).mergeSort (PySem.W.dataLe false fun z => eSI z.2)).map (·.1) = strefs (R.mergeSort fun p q => PySem.W.dataLe false eSI p.2 q.2) := by
  rw [← List.map_mergeSort (l := R) (f := fun z : Addr × Str × Int => (V.ref z.1, z.2)) (r := fun p q : Addr × Str × Int => PySem.W.dataLe false eSI p.2 q.2) (s := PySem.W.dataLe false fun z : V × Str × Int => eSI z.2) (fun _ _ _ _ => rfl), List.map_map]
  rfl
theorem sort_st_is (R : ST) : (R.mergeSort fun p q => PySem.W.dataLe false eSI p.2 q.2).map (·.2) = (R.map (·.2)).mergeSort (PySem.W.dataLe false eSI) :=
  List.map_mergeSort (l := R) (f := fun z : Addr × Str × Int => z.2) (r := fun p q : Addr × Str × Int => PySem.W.dataLe false eSI p.2 q.2) (s := PySem.W.dataLe false eSI) (fun _ _ _ _ => rfl)
theorem si_alike (bs : List (V × Str × Int)) : PySem.W.AllAlike (bs.map fun b => eSI b.2) := PySem.W.AllAlike.of fun b b' => by simp [eSI, PySem.W.alike, PySem.W.alikeAll]
theorem si_able (bs : List (V × Str × Int)) : PySem.W.Sortable (bs.map fun b => eSI b.2) := PySem.W.Sortable.tuples fun b => ⟨_, _, rfl⟩
/-- the ends with their numbers -/
def endsA (q : Int × Str) : List (Str × Int) := (List.range (q.2.length + 1)).map fun s => (suf q.2 s, q.1)
def endsN (h : List (Int × Str)) : List (Str × Int) := h.flatMap endsA
theorem endsA_len (q : Int × Str) : (endsA q).length = q.2.length + 1 := by unfold endsA; rw [List.length_map, List.length_range]
theorem endsA_at {q : Int × Str} {s : Nat} (h : s < q.2.length + 1) : (endsA q)[s]? = some (suf q.2 s, q.1) := by
  unfold endsA
  rw [List.getElem?_map, List.getElem?_range h]
  rfl
theorem endsN_snoc (h : List (Int × Str)) (q : Int × Str) : endsN (h ++ [q]) = endsN h ++ endsA q := by
  unfold endsN
  rw [List.flatMap_append]
  simp
theorem endsN_len {m : Nat} : ∀ {h : List (Int × Str)}, (∀ q ∈ h, q.2.length ≤ m) → (endsN h).length ≤ h.length * (m + 1)
  | [], _ => Nat.zero_le _
  | q :: r, hq => by
    have ih := endsN_len (h := r) fun x mm => hq x (List.mem_cons_of_mem _ mm)
    have e1 : endsN (q :: r) = endsA q ++ endsN r := rfl
    have h1 := hq q (List.mem_cons_self ..)
    rw [e1, List.length_append, endsA_len, List.length_cons, Nat.succ_mul]
    omega
theorem endsN_let {h : List (Int × Str)} (a : LetAll h) : ∀ p ∈ endsN h, IsLet p.1 := fun p hp => by
  obtain ⟨q, hq, hp⟩ := List.mem_flatMap.mp hp
  obtain ⟨s, _, rfl⟩ := List.mem_map.mp hp
  exact suf_let (a q hq) s
/-! ### the letters behind a word -/
def NL (h : List (Int × Str)) (w : Str) (c : Nat) : Prop := ∃ q ∈ h, ∃ s : Nat, s + w.length < q.2.length ∧ standsP w q.2 s = true ∧ (TL.tl q.2)[s + w.length]? = some c
structure NextL (h : List (Int × Str)) (w : Str) (z : Str) : Prop where
  asc : (TL.tl z).Pairwise (· < ·)
  mem : ∀ c, c ∈ TL.tl z ↔ NL h w c
theorem ascN_uniq {l m : List Nat} (h : l.Pairwise (· < ·)) (k : m.Pairwise (· < ·)) (e : ∀ c, c ∈ l ↔ c ∈ m) : l = m :=
  ((List.perm_ext_iff_of_nodup (h.imp Nat.ne_of_lt) (k.imp Nat.ne_of_lt)).mpr e).eq_of_pairwise (fun a b _ _ x y => absurd x (Nat.not_lt.mpr (Nat.le_of_lt y))) h k
theorem NextL.uniq {h : List (Int × Str)} {w z y : Str} (a : NextL h w z) (b : NextL h w y) : z = y := tl_inj (ascN_uniq a.asc b.asc fun c => (a.mem c).trans (b.mem c).symm)
theorem join_tl (ys : List Str) : TL.tl (Txt.join "" ys) = (ys.map TL.tl).flatten := by
  rw [TL.join_eq, TL.tl_join]
  have : ∀ l : List (List Nat), TL.joinL (TL.tl "") l = l.flatten := fun l => by
    induction l with
    | nil => rfl
    | cons a r ih =>
      cases r with
      | nil => simp [TL.joinL]
      | cons b r =>
        show a ++ (TL.tl "" ++ TL.joinL (TL.tl "") (b :: r)) = _
        rw [ih]
        rfl
  exact this _
theorem join_sgs (cs : List Nat) : TL.tl (Txt.join "" (cs.map sg)) = cs := by
  rw [join_tl, List.map_map]
  induction cs with
  | nil => rfl
  | cons c r ih =>
    rw [List.map_cons, List.flatten_cons, ih]
    rfl
theorem sgs_of : ∀ {l : List Str}, (∀ z ∈ l, ∃ c, z = sg c) → ∃ cs : List Nat, l = cs.map sg
  | [], _ => ⟨[], rfl⟩
  | z :: r, h => by
    obtain ⟨c, rfl⟩ := h z (List.mem_cons_self ..)
    obtain ⟨cs, rfl⟩ := sgs_of fun x m => h x (List.mem_cons_of_mem _ m)
    exact ⟨c :: cs, rfl⟩
theorem sg_inj {c d : Nat} (h : sg c = sg d) : c = d := by
  have := congrArg TL.tl h
  exact List.head_eq_of_cons_eq this
/-- one-letter texts in order, joined -/
theorem next_of {h : List (Int × Str)} {w : Str} {cs : List Nat} (nd : (cs.map sg).Nodup) (pw : (cs.map sg).Pairwise fun x y => x.cps.toList ≤ y.cps.toList) (mem : ∀ c, c ∈ cs ↔ NL h w c) : NextL h w (Txt.join "" (cs.map sg)) := by
  refine ⟨?_, fun c => by rw [join_sgs]; exact mem c⟩
  rw [join_sgs]
  have h1 : cs.Pairwise fun c d => sg c ≠ sg d := by
    have := nd
    rw [List.Nodup, List.pairwise_map] at this
    exact this
  rw [List.pairwise_map] at pw
  refine (h1.and pw).imp fun {c d} hh => ?_
  obtain ⟨n, le⟩ := hh
  have le : [c] ≤ [d] := le
  rcases Nat.lt_trichotomy c d with l | e | g
  · exact l
  · exact absurd (by rw [e]) n
  · exact absurd le (List.not_le.mpr (List.cons_lt_cons_iff.mpr (.inl g)))
/-! ### texts that end with a word -/
def endsP (w z : Str) : Bool := decide (w.length ≤ z.length) && standsP w z (z.length - w.length)
theorem endsw (z w : Str) : Txt.endswith z w = endsP w z := by
  show (decide (0 + w.length ≤ z.length) && PySem.Builtin.Str.subAt z w (z.length - w.length)) = _
  rw [Nat.zero_add, PySem.StrLaws.subAt_eq]
  unfold endsP standsP
  congr 1
  exact Bool.eq_iff_iff.mpr (beq_iff_eq.trans (decide_eq_true_iff).symm)
/-! ### stretches -/
theorem occ_in {h : List (Int × Str)} {z : Str} : z ∈ (occ h).map (·.1) ↔ TL.tl z ≠ [] ∧ ∃ q ∈ h, ∃ x y, TL.tl q.2 = x ++ TL.tl z ++ y := by
  have zl : (TL.tl z).length = z.length := rfl
  rw [occ_iff]
  constructor
  · rintro ⟨h1, h2⟩
    rw [cntO_plc h1, plc_same] at h2
    obtain ⟨o, ho⟩ := List.exists_mem_of_length_pos h2
    obtain ⟨q, hq, ho⟩ := List.mem_flatMap.mp ho
    obtain ⟨_, s, _, hs, st⟩ := mem_plcOf ho
    refine ⟨fun e => by rw [e] at zl; rw [← zl] at h1; exact absurd h1 (Nat.lt_irrefl _), q, hq, (TL.tl q.2).take s, (TL.tl q.2).drop (s + z.length), ?_⟩
    have e := of_decide_eq_true st
    rw [← e, List.append_assoc, ← List.drop_drop, List.take_append_drop, List.take_append_drop]
  · rintro ⟨n, q, hq, x, y, e⟩
    have h1 : 0 < z.length := by
      rw [← zl]
      exact List.length_pos_iff.mpr n
    refine ⟨h1, ?_⟩
    rw [cntO_plc h1, plc_same]
    have ql : (TL.tl q.2).length = q.2.length := rfl
    have l := congrArg List.length e
    rw [List.length_append, List.length_append] at l
    refine List.length_pos_of_mem (a := (q.1, (x.length : Int))) (List.mem_flatMap.mpr ⟨q, hq, ?_⟩)
    unfold plcOf
    refine List.mem_map.mpr ⟨x.length, List.mem_filter.mpr ⟨List.mem_range.mpr (by omega), decide_eq_true ?_⟩, rfl⟩
    rw [e, List.append_assoc, List.drop_left' rfl, List.take_left' zl]
theorem strL_of {O : List Str} {ws : List Sam.Wd} (pw : ws.Pairwise Sam.slx) (mem : ∀ w, w ∈ ws ↔ SX.S w ∈ O) : StrL O (ws.map SX.S) := by
  refine ⟨?_, ?_, fun z => ?_⟩
  · rw [List.Nodup, List.pairwise_map]
    refine pw.imp fun {a b} h e => ?_
    have : a = b := congrArg TL.tl e
    rw [this] at h
    exact Sam.slx_irr h
  · rw [List.pairwise_map]
    refine pw.imp fun {a b} h => ?_
    have la : (SX.S a).length = a.length := by show a.toArray.size = _; rw [List.size_toArray]
    have lb : (SX.S b).length = b.length := by show b.toArray.size = _; rw [List.size_toArray]
    rcases h with h | ⟨h1, h2⟩
    · exact .inl (by rw [la, lb]; exact h)
    · exact .inr ⟨by rw [la, lb]; exact h1, List.le_of_lt h2⟩
  · constructor
    · intro m
      obtain ⟨w, hw, rfl⟩ := List.mem_map.mp m
      exact (mem w).mp hw
    · intro m
      have e : SX.S (TL.tl z) = z := TL.mk_tl z
      exact List.mem_map.mpr ⟨TL.tl z, (mem _).mpr (by rw [e]; exact m), e⟩
end SH
set_option Elab.async false
set_option linter.all false
set_option maxRecDepth 100000
set_option maxHeartbeats 4000000
/-! slices of texts as lists of signs; letters joined -/
namespace SH
open PySem PySem.Spec PyProof.Rows L2
theorem tlen (z : Str) : (TL.tl z).length = z.length := (TL.len_tl z).symm
theorem cuts_take (z : Str) (k : Nat) : TL.tl (cutS z none (some (k : Int))) = (TL.tl z).take k := by
  show (z.cps.toList.drop (HT.sIx z.length 0 none)).take (HT.sIx z.length z.length (some (k : Int)) - HT.sIx z.length 0 none) = _
  rw [HT.sIx_none, HT.sIx_nat, List.drop_zero, Nat.sub_zero]
  have hz : z.cps.toList.length = z.length := rfl
  rcases Nat.le_total k z.length with h | h
  · rw [Nat.min_eq_left h]
  · rw [Nat.min_eq_right h, List.take_of_length_le (by rw [hz]; exact Nat.le_refl _)]
    exact (List.take_of_length_le (by rw [tlen]; exact h)).symm
theorem cuts_drop (z : Str) (k : Nat) : TL.tl (cutS z (some (k : Int)) none) = (TL.tl z).drop k := by
  show (z.cps.toList.drop (HT.sIx z.length 0 (some (k : Int)))).take (HT.sIx z.length z.length none - HT.sIx z.length 0 (some (k : Int))) = _
  rw [HT.sIx_none, HT.sIx_nat]
  have hz : z.cps.toList.length = z.length := rfl
  rcases Nat.le_total k z.length with h | h
  · rw [Nat.min_eq_left h, List.take_of_length_le (by rw [List.length_drop, hz]; exact Nat.le_refl _)]
  · rw [Nat.min_eq_right h, List.drop_of_length_le (by rw [hz]; exact Nat.le_refl _), List.take_nil]
    exact (List.drop_of_length_le (by rw [tlen]; exact h)).symm
theorem joinL_ones : ∀ cs : List Nat, TL.joinL [] (cs.map fun c => [c]) = cs
  | [] => rfl
  | [c] => rfl
  | c :: d :: r => by
    show [c] ++ ([] ++ TL.joinL [] ((d :: r).map fun c => [c])) = _
    rw [joinL_ones (d :: r)]
    rfl
theorem tl_join_ones (cs : List Nat) : TL.tl (Txt.join "" (cs.map fun c => (⟨#[c]⟩ : Str))) = cs := by
  have e : (Txt.join "" (cs.map fun c => (⟨#[c]⟩ : Str))).cps.toList = TL.joinL [] (cs.map fun c => [c]) := by
    rw [TL.join_eq]
    refine (TL.tl_join "" _).trans ?_
    rw [List.map_map]
    rfl
  rw [joinL_ones] at e
  exact e
theorem cut_let {z : Str} (h : IsLet z) (lo hi : Option Int) : IsLet (cutS z lo hi) := List.all_eq_true.mpr fun c hc => List.all_eq_true.mp h c (List.mem_of_mem_drop (List.mem_of_mem_take (show c ∈ (z.cps.toList.drop _).take _ from hc)))
end SH
set_option Elab.async false
set_option linter.all false
set_option maxRecDepth 100000
set_option maxHeartbeats 4000000
/-! xs[i] += e -/
namespace SH
open PySem PySem.Spec PyProof.Rows L2
theorem pget_list {X : Cx} : PGet X (rIxL X.K) := by
  intro pins s σ H x y v u Q I rx ry h
  obtain ⟨p, xs, i, z, rfl, rfl, hq, he, q⟩ := h
  cases rx
  obtain ⟨t, rfl⟩ := ry
  obtain ⟨its, r, pl, hz⟩ := I.list hq
  obtain ⟨j, h1, h2, h3, h4, h5⟩ := atI_get he
  obtain ⟨w, ew, rw'⟩ := r.get h2
  have hl := r.length
  have hn := line63
  have fin : EP X pins σ Q w s := ⟨z, H, I, rw', q⟩
  by_cases h0 : 0 ≤ i
  · have hj : i.toNat = j := by
      rw [seqIndex_of h0 h5] at h1
      exact Option.some.inj h1
    exact wpAny_getItem_list pl.isList h0 (by omega) (by rw [hj]; simpa using ew) fin
  · have hj : (i + (its.toArray.size : Int)).toNat = j := by
      rw [seqIndex_neg (by omega) h4] at h1
      rw [List.size_toArray, ← hl]
      exact Option.some.inj h1
    exact wpAny_getItem_list_neg pl.isList (by omega) (by rw [List.size_toArray] <;> omega) (by omega) (by rw [hj]; simpa using ew) fin
theorem pgetK {X : Cx} {K : PySem.W.Frag} (h : X.K = K := by rfl) : PGet X (rIxL K) := h ▸ pget_list
theorem call_len_seqK {X : Cx} {K : PySem.W.Frag} (h : X.K = K := by rfl) : CallR X (.builtin "len") (fun xs H Q => ∃ p ys, xs = [.ref p] ∧ (SqL K H p ys ∨ SqT K H p ys) ∧ Q (.int ys.length) H) := h ▸ call_len_seq
theorem call_list_ofK {X : Cx} {K : PySem.W.Frag} (h : X.K = K := by rfl) : CallR X (.type "list") (fun xs H Q => ∃ p ys, xs = [.ref p] ∧ (SqL K H p ys ∨ SqT K H p ys) ∧ ∀ l, H l = none → Q (.ref l) (upd H l (.lst ys))) := h ▸ call_list_of
theorem op_notIn_seqK {X : Cx} {K : PySem.W.Frag} (h : X.K = K := by rfl) : OpR X (compareOp .NotIn) (rIn K true) := h ▸ op_notIn_seq
end SH
set_option Elab.async false
set_option linter.all false
set_option maxRecDepth 100000
set_option maxHeartbeats 4000000
/-! sorted(xs), xs a list of pairs of a number and a text: by the number, then by the text -/
namespace SH
open PySem PySem.Spec PyProof.Rows L2
def nsLt (p q : Int × Str) : Prop := p.1 < q.1 ∨ (p.1 = q.1 ∧ p.2.cps.toList < q.2.cps.toList)
instance (p q : Int × Str) : Decidable (nsLt p q) := inferInstanceAs (Decidable (_ ∨ _))
def ltNS (k : Value → Int × Str) (v u : Value) : Bool := decide (nsLt (k v) (k u))
theorem ltNS_swo (k : Value → Int × Str) : SrtO.Swo (ltNS k) := by
  refine ⟨fun x y h => decide_eq_false ?_, fun x y z h1 h2 => decide_eq_false ?_⟩
  · have h := of_decide_eq_true h
    rintro (q | ⟨e, q⟩) <;> rcases h with h | ⟨e2, h⟩
    · omega
    · omega
    · omega
    · exact List.lt_irrefl _ (List.lt_trans h q)
  · have a := of_decide_eq_false h1
    have b := of_decide_eq_false h2
    rintro (q | ⟨e, q⟩)
    · by_cases c : (k y).1 < (k x).1
      · exact a (.inl c)
      · exact b (.inl (by omega))
    · by_cases c : (k y).1 < (k x).1
      · exact a (.inl c)
      · by_cases c2 : (k z).1 < (k y).1
        · exact b (.inl c2)
        · have e1 : (k y).1 = (k x).1 := by omega
          have e2 : (k z).1 = (k y).1 := by omega
          have l1 : (k x).2.cps.toList ≤ (k y).2.cps.toList := List.not_lt.mp fun z => a (.inr ⟨e1, z⟩)
          have l2 : (k y).2.cps.toList ≤ (k z).2.cps.toList := List.not_lt.mp fun z => b (.inr ⟨e2, z⟩)
          exact absurd q (List.not_lt.mpr (List.le_trans l1 l2))
section
variable {prog : Program} {w : World} {A : Around} {s : Shared}
theorem ns_cmp {vs : List Value} {k : Value → Int × Str} (hp : ∀ v ∈ vs, NT s.heap v (k v)) :
    SrtO.Cmp prog w A s (tuples' true) (fun p => p.1 ∈ vs) (SrtO.lt2 (ltNS k)) := by
  rintro ⟨x, kx⟩ ⟨y, ky⟩ mp mq
  show wpAny (model prog w) A (keyLt' (tuples' true) x y) (fun r s' => s' = s ∧ r = decide (nsLt (k x) (k y))) (fun _ _ => False) s
  obtain ⟨a, o, t, u, c, e, g, cl, d⟩ := hp _ mp
  obtain ⟨a', o', t', u', c', e', g', cl', d'⟩ := hp _ mq
  have ex : x = .ref a := e
  have ey : y = .ref a' := e'
  subst ex ey
  refine PySem.W.kat_lt g d g' d' (PySem.W.kat_cons (SeqAt.EqAt.int_int _ t _ t' prog w _ _ (PySem.W.kat_go (fun e1 => ?_) (fun e1 => ?_))))
  · have en : (k (.ref a)).1 = (k (.ref a')).1 := by simpa using e1
    refine PySem.W.kat_yes (PySem.W.kat_cons (SeqAt.EqAt.str_str _ u _ u' prog w _ _ (PySem.W.kat_go (fun e2 => ?_) (fun e2 => ?_))))
    · have ez : (k (.ref a)).2 = (k (.ref a')).2 := by simpa using e2
      refine PySem.W.kat_yes (PySem.W.kat_nil ⟨rfl, ?_⟩)
      refine (decide_eq_false ?_).symm
      rintro (q | ⟨_, q⟩)
      · omega
      · rw [ez] at q
        exact List.lt_irrefl _ q
    · refine PySem.W.kat_no (oneLt_any_str ⟨rfl, ?_⟩)
      refine decide_eq_decide.mpr ⟨fun q => .inr ⟨en, q⟩, fun q => ?_⟩
      rcases q with q | ⟨_, q⟩
      · omega
      · exact q
  · refine PySem.W.kat_no (oneLt_int ⟨rfl, ?_⟩)
    have en : (k (.ref a)).1 ≠ (k (.ref a')).1 := by simpa using e1
    exact decide_eq_decide.mpr ⟨.inl, fun q => q.elim id fun q => absurd q.1 en⟩
theorem ns_sortable {a : Addr} {vs : List Value} {k : Value → Int × Str} (h0 : 0 < vs.length) (hp : ∀ v ∈ vs, NT s.heap v (k v))
    (ha : ∀ o, s.heap.get? a = some o → o.cls ≠ .type "tuple") : SrtO.SortableO prog w A s a vs (ltNS k) := by
  intro h' keep
  have hp' : ∀ v ∈ vs, NT h' v (k v) := fun v m => (hp v m).on fun b o g c => keep b o (fun z => ha o (z ▸ g) c) g
  obtain ⟨fs, f1, f2, f3⟩ := nt_firsts vs hp'
  refine ⟨tuples' true, fun Q E q => PySem.W.kat_kind (T := .type "int") f1 (by omega) (fun f m => ?_) (by rfl) ?_, ns_cmp hp'⟩
  · obtain ⟨n, t, rfl⟩ := f3 f m
    exact PySem.W.Looks.now
  · have e : (Value.type "int" != Value.type "tuple") = true := by first | decide +kernel | rfl
    rw [e]
    exact q
end
/-- sorted(xs): a new list of the same pairs, by both -/
def rSortNS (K : PySem.W.Frag) : List V → Hp → VK → Prop := fun vs H Q => ∃ (a : Addr) (L : PL), vs = [.ref a] ∧ HsAt K H a L ∧
  ∀ (L' : PL) (p : Addr), L'.Perm L → L'.Pairwise (fun q r => ¬ nsLt r.2 q.2) → H p = none → Q (.ref p) (upd H p (.lst (refs L')))
section
variable {X : Cx}
theorem cr_sortNS : CallR X (.builtin "sorted") (rSortNS X.K) := by
  intro pins s τ H vs us Q I r h
  obtain ⟨a, L, rfl, hA, q⟩ := h
  obtain ⟨its, rv, hl, hz⟩ := I.list hA.1
  obtain ⟨u, rfl, ru⟩ := vals1 r
  obtain rfl : u = Value.ref a := ru
  obtain ⟨e1, e2⟩ := refs_back rv (fun x m => by
    obtain ⟨q, _, e⟩ := List.mem_map.mp m
    exact ⟨q.1, e.symm⟩)
  -- one address, one pair
  have un : ∀ q ∈ L, ∀ r ∈ L, q.1 = r.1 → q.2 = r.2 := fun q hq r hr e => by
    have z := I.tuple_inj (hA.2 q hq) (by rw [e]; exact hA.2 r hr)
    obtain ⟨x, n, t⟩ := q
    obtain ⟨y, m, t'⟩ := r
    simp at z
    show (n, t) = (m, t')
    rw [z.1, z.2]
  have mem : ∀ v ∈ its, ∃ q ∈ L, v = Value.ref q.1 := fun v hv => by
    obtain ⟨t, rfl⟩ := e2 v hv
    have m : V.ref t ∈ refs L := by
      rw [e1]
      exact List.mem_map.mpr ⟨_, hv, rfl⟩
    obtain ⟨q, hq, e⟩ := List.mem_map.mp m
    cases e
    exact ⟨q, hq, rfl⟩
  have nt : ∀ v ∈ its, NT s.heap v (atAddr L v) := fun v hv => by
    obtain ⟨q, hq, rfl⟩ := mem v hv
    rw [atAddr_of un hq]
    obtain ⟨i2, r2, ⟨o, g, c, n, d⟩, _⟩ := I.tuple (hA.2 q hq)
    obtain ⟨u1, u2, rfl, ⟨t1, rfl⟩, ⟨t2, rfl⟩⟩ := vals2 r2
    exact ⟨q.1, o, t1, t2, n, rfl, g, c, d⟩
  refine SrtO.sorted_ord (ltNS_swo (atAddr L)) hl.isList (by rw [← rv.length]; exact hz) (fun h2 h₁ b hb kk => ?_) (fun out hs hb => ?_)
  · refine ns_sortable (s := { s with heap := h₁ }) (by omega) (fun v m => (nt v m).on fun c o g _ => (kk c o g).2) (fun o g c => ?_)
    have g' : some o = some (seqObj "list" its.toArray 0) := g.symm.trans hb
    cases g'
    exact absurd (Value.type.inj c) (by decide)
  · have mo : ∀ v ∈ out, ∃ q ∈ L, v = Value.ref q.1 := fun v hv => mem v (hb.perm.mem_iff.mp hv)
    -- the pairs in their new order
    let f : Value → Addr × Int × Str := fun v => (addrOf v, atAddr L v)
    have fq : ∀ q ∈ L, f (.ref q.1) = q := fun q hq => by
      show (q.1, atAddr L (.ref q.1)) = q
      rw [atAddr_of un hq]
    have hL : its.map f = L := by
      have z : (refs L).map (fun v => match v with | .ref t => f (.ref t) | _ => (0, 0, "")) = L := by
        unfold refs
        rw [List.map_map]
        calc L.map _ = L.map id := List.map_congr_left fun q hq => fq q hq
          _ = L := List.map_id L
      rw [e1, List.map_map] at z
      refine Eq.trans (List.map_congr_left fun v hv => ?_) z
      obtain ⟨q, _, rfl⟩ := mem v hv
      rfl
    have hp : (out.map f).Perm L := by
      rw [← hL]
      exact hb.perm.map f
    have hr : refs (out.map f) = out.map backV := by
      unfold refs
      rw [List.map_map]
      refine List.map_congr_left fun v hv => ?_
      obtain ⟨q, _, rfl⟩ := mo v hv
      rfl
    have hsrt : (out.map f).Pairwise (fun q r => ¬ nsLt r.2 q.2) := by
      rw [List.pairwise_map]
      exact List.Pairwise.imp (fun {x y} h => of_decide_eq_false h) hs
    obtain ⟨n, hn⟩ := sortedAll_at s.heap its out.toArray
    have hd : s.heap.objs.size ≤ s.heap.objs.size + 1 := Nat.le_succ _
    refine ⟨.ref (s.heap.objs.size + 1), upd H (s.heap.objs.size + 1) (.lst (refs (out.map f))), I.laid (t' := s.toks) (fun b o g => sortedAll_old g) hd ⟨?_, out, n, ?_, hn⟩, rfl, q _ _ hp hsrt (I.hok.fresh hd)⟩
    · have e3 : (refs (out.map f)).length = (refs L).length := by
        unfold refs
        rw [List.length_map, List.length_map (as := L), hp.length_eq]
      rw [e3]
      exact hz
    · rw [hr]
      exact vals_back fun v hv => by
        obtain ⟨q, _, rfl⟩ := mo v hv
        exact ⟨q.1, rfl⟩
end
end SH
set_option Elab.async false
set_option linter.all false
set_option maxRecDepth 100000
set_option maxHeartbeats 4000000
/-! sorted(a dict whose keys are texts), of any size -/
namespace SH
open PySem PySem.Spec PyProof.Rows L2
section
variable {X : Cx}
def rSortDS : List V → Hp → VK → Prop := fun xs H Q => ∃ (a : Addr) (kvs : List (Key × V)) (ks : List Str), xs = [.ref a] ∧ Rd H a (.dK kvs) ∧ kvs.map (·.1) = ks.map Sum.inr ∧
    ∀ p, H p = none → Q (.ref p) (upd H p (.lst ((ks.mergeSort (PySem.W.dataLe false PyData.str)).map V.str)))
theorem cr_sortDS (hcalm : X.calm = true) (hu : X.A.units + 64 < cLine) : CallR X (.builtin "sorted") rSortDS := by
  intro pins s σ H xs us Q I r q
  obtain ⟨a, kvs, ks, ex, hd, hks, q⟩ := q
  subst ex
  obtain ⟨u, eu, rx⟩ := vals1 r
  subst eu
  cases rx
  obtain ⟨z, lo, vs, rel, dd⟩ := dk_rd I.hok hd
  obtain ⟨ep, hat⟩ := dd.dictAt
  have hkeys : vs.map (·.1) = ks.map Sum.inr := rel.keys.symm.trans hks
  have hl : vs.length = ks.length := by
    have e := congrArg List.length hkeys
    rw [List.length_map, List.length_map] at e
    exact e
  have h16 : vs.length ≤ sizeLine := by rw [← rel.length]; exact z
  refine Calls.call_function_entry PyProof.Rows.kind_sorted PyProof.Rows.plain_sorted PyProof.Rows.entry_sorted (PyProof.Rows.args_sorted1 _) ?_
  unfold Builtin.«sorted»
  refine wpAny_bind (m := checkCount "sorted" 1 1 _) (wpAny_pure ?_)
  refine wpAny_bind (PySem.W.kdu_collect (A := X.A.in1) (PySem.W.kdl_dict (knd := mixKind X.prog X.w) (kvs := vs) (ep := ep) lo) (I.ok.hd hcalm) hat h16 fun h' tk acc hk hacc => ?_)
  have hal : acc.toList.length = ks.length := by rw [Array.length_toList, hacc.1, hl]
  have hS : StrsAre acc.toList ks := strs_at hal fun j v e => by
    obtain ⟨k, x, e1, e2⟩ := hacc.2 j v (by rw [← Array.getElem?_toList]; exact e)
    have e3 : (vs.map (·.1))[j]? = some k := by rw [List.getElem?_map, e1]; all_goals rfl
    rw [hkeys, List.getElem?_map] at e3
    cases e4 : ks[j]? with
    | none => rw [e4] at e3; cases e3
    | some y =>
      rw [e4] at e3
      have e5 : Sum.inr y = k := Option.some.inj e3
      subst e5
      obtain ⟨t, ev⟩ := Value.isStrOf_shape (x := y) (v := v) e2
      exact ⟨y, t, rfl, ev⟩
  have I1 : Inv X pins σ H { s with heap := h', toks := tk } := I.kept hk
  have hsl : acc.toList.length ≤ sizeLine := by rw [hal, ← hl]; exact h16
  refine wpAny_bind (wpAny_newList ?_ hsl)
  have hoL : (h'.push (seqObj "list" acc.toList.toArray 0)).get? h'.objs.size = some (seqObj "list" acc.toList.toArray 0) := Heap.get?_push_size _ rfl
  show wpAny _ _ _ _ _ { s with heap := h'.push (seqObj "list" acc.toList.toArray 0), toks := tk }
  have e := each_of_map V.str (vals_of_strs hS)
  have er : PySem.W.EachIs (fun v z => ∃ as, Reads (h'.push (seqObj "list" acc.toList.toArray 0)) v (PyData.str z) as ∧ h'.objs.size ∉ as) acc.toList ks := e.mono fun v z r => ⟨[], by obtain ⟨t, rfl⟩ := r; exact .str z t, by simp⟩
  refine wpAny_bind (wpAny_holding (PySem.W.list_sort_data (enc := PyData.str) (s := { s with heap := h'.push (seqObj "list" acc.toList.toArray 0), toks := tk }) hoL e er (PySem.W.AllAlike.of fun b b' => by simp [PySem.W.alike]) (PySem.W.Sortable.others fun b => ⟨by simp, fun xs => by simp⟩) (by rw [← hal]; exact hsl) (fun z hz' => ?_) (fun out2 ho2 eo => ?_)))
  · show X.A.in1.units + 1 + 0 < cLine
    have e2 : X.A.in1.units = X.A.units + 1 := rfl
    omega
  · obtain ⟨c, hcc⟩ := sortedHeap_at (vs := acc.toList) (out := out2.toArray) hoL
    refine wpAny_pure ⟨_, rfl, .ref h'.objs.size, upd H h'.objs.size (.lst ((ks.mergeSort (PySem.W.dataLe false PyData.str)).map V.str)), I1.laid (t' := tk) (fun b u e => ?_) (Nat.le_refl _)
      (show ObjOk X.prog X.w _ _ _ (.lst ((ks.mergeSort (PySem.W.dataLe false PyData.str)).map V.str)) from ⟨by rw [List.length_map, List.length_mergeSort, ← hal]; exact hsl, out2, c, map_of_each _ eo, hcc⟩), rfl, q _ (I1.hok.fresh (Nat.le_refl _))⟩
    have hb : b < h'.objs.size := Heap.lt_size e
    rw [PyProof.Rows.sortedHeap_old (Nat.ne_of_lt hb) (by rw [size_push']; exact Nat.lt_succ_of_lt hb)]
    exact Heap.get?_push_of_some _ e
end
end SH
set_option Elab.async false
set_option linter.all false
set_option maxRecDepth 100000
set_option maxHeartbeats 4000000
/-! lines of a house's text -/
namespace SH
open PySem PySem.Spec PyProof.Rows L2 TL
def dg (c : Nat) : Bool := decide (48 ≤ c) && decide (c ≤ 57)
/-- the number that a numeral of one or two signs gives -/
def numIn (a : List Nat) : Option Nat := match a with
  | [c] => if dg c = true then some (c - 48) else none
  | [c, d] => if (dg c && dg d && !(c == 48)) = true then some ((c - 48) * 10 + (d - 48)) else none
  | _ => none
inductive Ft where
  | line | text | order | many
/-- what stands before and behind the first colon -/
def col (z : Str) : Option (Str × Str) := if Txt.find z ":" = -1 then none else some ((Txt.partition z ":").1, (Txt.partition z ":").2.2)
theorem col_cases (z : Str) : (col z = none ∧ Txt.partition z ":" = (z, Str.empty, Str.empty) ∧ Txt.find z ":" = -1) ∨
    ∃ (i : Nat) (a b : Str), col z = some (a, b) ∧ Txt.partition z ":" = (a, (":" : Str), b) ∧ Txt.find z ":" = (i : Int) ∧ tl a = (tl z).take i ∧ tl b = (tl z).drop (i + 1) ∧ i + 1 ≤ z.length := by
  rcases StrLaws.occ_head z ":" 1 (Nat.le_refl 1) with ⟨h0, hn⟩ | ⟨i, r, h0, hi, hn⟩
  · left
    have f : Txt.find z ":" = -1 := by unfold Txt.find; rw [h0]
    refine ⟨by unfold col; rw [if_pos f], ?_, f⟩
    unfold Txt.partition
    rw [h0]
  · right
    have f : Txt.find z ":" = (i : Int) := by unfold Txt.find; rw [h0]
    have p : Txt.partition z ":" = (Builtin.Str.strSub z 0 i, (":" : Str), Builtin.Str.strSub z (i + (":" : Str).length) z.length) := by
      unfold Txt.partition
      rw [h0]
    refine ⟨i, Builtin.Str.strSub z 0 i, Builtin.Str.strSub z (i + 1) z.length, ?_, p, f, ?_, ?_, hi.1⟩
    · unfold col
      rw [if_neg (by rw [f]; omega), p]
      rfl
    · rw [tl_strSub, List.drop_zero, Nat.sub_zero]
    · rw [tl_strSub_end]
/-- a line: its pair, or its first fault -/
def lineR (z : Str) : Sum (Nat × Str) Ft := match col z with
  | none => .inr .line
  | some (a, b) => match numIn (tl a) with
    | none => .inr .line
    | some n => if 40 < b.length then .inr .text else .inl (n, b)
/-- the lines from the k-th on, behind the number b -/
def rdH (rest : Str) : Nat → Int → List Str → Sum (List (Int × Str)) (Ft × Nat)
  | k, _, [] => if rest = "" then .inl [] else .inr (.line, k)
  | k, b, z :: r => match lineR z with
    | .inr t => .inr (t, k)
    | .inl (n, x) => if (n : Int) ≤ b then .inr (.order, k) else if 8 ≤ k then .inr (.many, k) else match rdH rest (k + 1) n r with
      | .inl h => .inl ((n, x) :: h)
      | .inr e => .inr e
/-- with the pairs that have been read -/
def ahead (h : List (Int × Str)) : Sum (List (Int × Str)) (Ft × Nat) → Sum (List (Int × Str)) (Ft × Nat)
  | .inl t => .inl (h ++ t)
  | .inr e => .inr e
theorem rdH_step {rest z x : Str} {k n : Nat} {b : Int} {r : List Str} {h : List (Int × Str)} (hl : lineR z = .inl (n, x)) (h1 : ¬ (n : Int) ≤ b) (h2 : ¬ 8 ≤ k) :
    ahead h (rdH rest k b (z :: r)) = ahead (h ++ [((n : Int), x)]) (rdH rest (k + 1) n r) := by
  rw [rdH, hl]
  show ahead h (if (n : Int) ≤ b then _ else if 8 ≤ k then _ else _) = _
  rw [if_neg h1, if_neg h2]
  cases rdH rest (k + 1) n r with
  | inl t => show Sum.inl (h ++ ((n : Int), x) :: t) = Sum.inl (h ++ [((n : Int), x)] ++ t); rw [List.append_assoc]; rfl
  | inr e => rfl
/-- a text -/
def rdT (z : Str) : Sum (List (Int × Str)) (Ft × Nat) := rdH ((Txt.split z "\n").getLastD "") 0 (-1) (Txt.split z "\n").dropLast
/-! numerals -/
theorem digit_ascii : ∀ c : Nat, c < 128 → Unicode.isDigit c = dg c := by decide +kernel
theorem numIn_one {c n : Nat} : numIn [c] = some n ↔ dg c = true ∧ n = c - 48 := by
  show (if dg c = true then some (c - 48) else none) = some n ↔ _
  by_cases h : dg c = true
  · rw [if_pos h]
    exact ⟨fun e => ⟨h, (Option.some.inj e).symm⟩, fun e => by rw [e.2]⟩
  · rw [if_neg h]
    exact ⟨(fun e => by cases e), (fun e => absurd e.1 h)⟩
theorem numIn_two {c d n : Nat} : numIn [c, d] = some n ↔ dg c = true ∧ dg d = true ∧ c ≠ 48 ∧ n = (c - 48) * 10 + (d - 48) := by
  show (if (dg c && dg d && !(c == 48)) = true then some ((c - 48) * 10 + (d - 48)) else none) = some n ↔ _
  by_cases h : (dg c && dg d && !(c == 48)) = true
  · rw [if_pos h]
    simp at h
    exact ⟨fun e => ⟨h.1.1, h.1.2, h.2, (Option.some.inj e).symm⟩, fun e => by rw [e.2.2.2]⟩
  · rw [if_neg h]
    refine ⟨(fun e => by cases e), (fun e => absurd ?_ h)⟩
    simp [e.1, e.2.1, e.2.2.1]
theorem dg_iff {c : Nat} : dg c = true ↔ 48 ≤ c ∧ c ≤ 57 := by
  unfold dg
  simp
theorem numIn_le {a : List Nat} {n : Nat} (h : numIn a = some n) : n ≤ 99 := by
  match a, h with
  | [c], h =>
    obtain ⟨h1, h2⟩ := numIn_one.mp h
    have := dg_iff.mp h1
    omega
  | [c, d], h =>
    obtain ⟨h1, h2, h3, h4⟩ := numIn_two.mp h
    have := dg_iff.mp h1
    have := dg_iff.mp h2
    omega
  | [], h => cases h
  | _ :: _ :: _ :: _, h => cases h
theorem numIn_len {a : List Nat} {n : Nat} (h : numIn a = some n) : a.length = 1 ∨ a.length = 2 := by
  match a, h with
  | [_], _ => exact .inl rfl
  | [_, _], _ => exact .inr rfl
  | [], h => cases h
  | _ :: _ :: _ :: _, h => cases h
theorem log_small {n : Nat} (h : n ≤ 1000) : ((n : Nat) : Int).natAbs.log2 < 1920 := by
  rw [Int.natAbs_natCast]
  exact Nat.lt_of_le_of_lt (Nat.le_trans (Nat.log2_le_self n) h) (by decide)
/-! texts whose signs are signs -/
def OkS (z : Str) : Prop := ∀ c ∈ tl z, c < 1114112
theorem OkS.ok {z : Str} (h : OkS z) : PyData.strOk z = true := by
  unfold PyData.strOk
  rw [← Array.all_toList]
  exact List.all_eq_true.mpr fun c hc => decide_eq_true (h c hc)
theorem OkS.app {a b : Str} (ha : OkS a) (hb : OkS b) : OkS (a ++ b) := fun c hc => by
  rw [tl_append] at hc
  exact (List.mem_append.mp hc).elim (ha c) (hb c)
theorem OkS.cut {z : Str} (h : OkS z) (lo hi : Option Int) : OkS (cutS z lo hi) := fun c hc => h c (List.mem_of_mem_drop (List.mem_of_mem_take (show c ∈ (z.cps.toList.drop _).take _ from hc)))
theorem ok_let {z : Str} (h : IsLet z) : OkS z := fun c hc => by
  have := okc_lt (List.all_eq_true.mp h c hc)
  omega
theorem ok_part {z x a b : Str} (h : OkS z) {i : Nat} (ha : tl a = (tl z).take i) (hb : tl b = (tl z).drop (i + 1)) : OkS a ∧ OkS b :=
  ⟨fun c hc => h c (List.mem_of_mem_take (by rw [← ha]; exact hc)), fun c hc => h c (List.mem_of_mem_drop (by rw [← hb]; exact hc))⟩
/-- signs and separators of a list of texts -/
def tot (ys : List Str) : Nat := (ys.map (·.length)).sum + ys.length
theorem tot_app (a b : List Str) : tot (a ++ b) = tot a + tot b := by
  unfold tot
  rw [List.map_append, List.sum_append, List.length_append]
  omega
theorem tot_take_drop (a : List Str) (i : Nat) : tot (a.take i) + tot (a.drop i) = tot a := by
  rw [← tot_app, List.take_append_drop]
theorem tot_one (x : Str) : tot [x] = x.length + 1 := by
  unfold tot
  simp
theorem joinL_tot : ∀ l : List (List Nat), (joinL [10] l).length ≤ (l.map List.length).sum + l.length
  | [] => Nat.le_refl _
  | [p] => by simp [joinL]
  | p :: q :: r => by
    have ih := joinL_tot (q :: r)
    show (p ++ ([10] ++ joinL [10] (q :: r))).length ≤ _
    rw [List.length_append, List.length_append, List.map_cons, List.sum_cons, List.length_cons (a := p)]
    simp only [List.length_cons, List.length_nil] at ih ⊢
    omega
theorem join_tot (ys : List Str) : (Txt.join "\n" ys).length ≤ tot ys := by
  have e : tl (Txt.join "\n" ys) = joinL [10] (ys.map tl) := by
    rw [join_eq, tl_join]
    rfl
  have b := joinL_tot (ys.map tl)
  rw [← e, List.map_map, List.length_map] at b
  have c : ((List.length ∘ tl) : Str → Nat) = fun x => x.length := funext fun x => (len_tl x).symm
  rw [c] at b
  rw [len_tl]
  exact b
theorem joinL_mem2 {S : List Nat} {c : Nat} : ∀ {l : List (List Nat)}, c ∈ joinL S l → c ∈ S ∨ ∃ p ∈ l, c ∈ p
  | [], h => by cases h
  | [p], h => .inr ⟨p, List.mem_singleton.mpr rfl, h⟩
  | p :: q :: r, h => by
    have h' : c ∈ p ++ (S ++ joinL S (q :: r)) := h
    rcases List.mem_append.mp h' with m | m
    · exact .inr ⟨p, List.mem_cons_self .., m⟩
    · rcases List.mem_append.mp m with m | m
      · exact .inl m
      · rcases joinL_mem2 m with m | ⟨x, hx, m⟩
        · exact .inl m
        · exact .inr ⟨x, List.mem_cons_of_mem _ hx, m⟩
theorem ok_join {y : Str} (hy : OkS y) {ys : List Str} (h : ∀ x ∈ ys, OkS x) : OkS (Txt.join y ys) := fun c hc => by
  rw [join_eq, tl_join] at hc
  rcases joinL_mem2 hc with m | ⟨p, hp, m⟩
  · exact hy c m
  · obtain ⟨x, hx, rfl⟩ := List.mem_map.mp hp
    exact h x hx c m
theorem split_more (z : Str) : Txt.split z "\n" ≠ [] ∧ tot (Txt.split z "\n") = z.length + 1 ∧ (OkS z → ∀ x ∈ Txt.split z "\n", OkS x) := by
  have key : ∀ (l acc : List Nat), spl [10] 0 acc l ≠ [] ∧ ((spl [10] 0 acc l).map List.length).sum + (spl [10] 0 acc l).length = acc.length + l.length + 1 ∧ ∀ x ∈ spl [10] 0 acc l, ∀ c ∈ x, c ∈ acc ∨ c ∈ l := by
    intro l
    induction l with
    | nil =>
      intro acc
      rw [spl_nil]
      exact ⟨by simp, by simp, fun x hx c hc => by rw [List.mem_singleton.mp hx] at hc; exact .inl hc⟩
    | cons d r ih =>
      intro acc
      by_cases h : pre [10] (d :: r) = true
      · have e : spl [10] 0 acc (d :: r) = acc :: spl [10] 0 [] r := spl_hit h
        obtain ⟨i1, i2, i3⟩ := ih []
        rw [e]
        refine ⟨by simp, ?_, fun x hx c hc => ?_⟩
        · rw [List.map_cons, List.sum_cons, List.length_cons, List.length_cons]
          rw [List.length_nil] at i2
          omega
        · rcases List.mem_cons.mp hx with e1 | m
          · rw [e1] at hc
            exact .inl hc
          · rcases i3 x m c hc with q | q
            · cases q
            · exact .inr (List.mem_cons_of_mem _ q)
      · have e : spl [10] 0 acc (d :: r) = spl [10] 0 (acc ++ [d]) r := by
          show (if pre [10] (d :: r) = true then _ else _) = _
          rw [if_neg h]
        obtain ⟨i1, i2, i3⟩ := ih (acc ++ [d])
        rw [e]
        refine ⟨i1, ?_, fun x hx c hc => ?_⟩
        · have a1 : (acc ++ [d]).length = acc.length + 1 := by simp
          have a2 : (d :: r).length = r.length + 1 := rfl
          omega
        · rcases i3 x hx c hc with q | q
          · rcases List.mem_append.mp q with q | q
            · exact .inl q
            · rw [List.mem_singleton.mp q]; exact .inr (List.mem_cons_self ..)
          · exact .inr (List.mem_cons_of_mem _ q)
  have e : (Txt.split z "\n").map tl = spl [10] 0 [] (tl z) := split_spl z "\n" (by decide) (kind_ok (by decide +kernel))
  obtain ⟨k1, k2, k3⟩ := key (tl z) []
  rw [← e] at k1 k2 k3
  refine ⟨fun h => k1 (by rw [h]; rfl), ?_, fun ok x hx c hc => ?_⟩
  · rw [List.map_map, List.length_map] at k2
    have c : ((List.length ∘ tl) : Str → Nat) = fun x => x.length := funext fun x => (len_tl x).symm
    rw [c] at k2
    unfold tot
    rw [k2, List.length_nil, len_tl z]
    omega
  · rcases k3 (tl x) (List.mem_map_of_mem hx) c hc with q | q
    · cases q
    · exact ok c q
end SH
set_option Elab.async false
set_option linter.all false
set_option maxRecDepth 100000
set_option maxHeartbeats 4000000
/-! a law whose body tells data by repr: what is promised where no repr is under way -/
namespace SH
open PySem PySem.Spec PyProof.Rows L2
/-- a def's promise at such a place -/
structure FnG (P : Program) (w : World) (K : PySem.W.Frag) (mg : Str → Option Value) (base : Heap) (k : Nat) (f : Addr) (fd : FuncData) (ps : List Str) (sp : Sp) : Prop where
  run : ∀ (A : Around) (outer : List Env) (s : Shared) (H : Hp) (args : Args) (us : List Value) (vs : List V) (Q : VK) (E : XK), A.guards = some [] → Room k A → Env0 P w K mg base A outer s H → BindsTo s fd args (ps.zip us) → Vals vs us → sp vs H Q E →
    codeAny (model P w) A (.call (.ref f) args) (CR CX0 outer P w H s Q E) s
theorem okG {P : Program} {w : World} {K : PySem.W.Frag} {mg : Str → Option Value} {base : Heap} {x qual : Str} {st : Stmt} {f : Addr} {fd : FuncData} {N ps : List Str} {k : Nat} {sp : Sp} (F : Fun K x qual st f fd) (S : FnScope N ps (defScope st)) (len : ∀ vs H Q E, sp vs H Q E → vs.length = ps.length)
    (hbody : ∀ (cdv : Value) (A : Around) (outer : List Env) (s : Shared) (H : Hp) (vs : List V) (Q : VK) (E : XK), A.guards = some [] → Room k (A.deeper (envOfC qual (defScope st) s.heap.objs.size f cdv)) → sp vs H Q E →
      ∃ t, PSs (cxOf CX0 P w K mg base N qual (defScope st) f cdv A outer s H E).nox (defBody st) t ∧ t { nx := fun _ H' => Q .non H', rt := Q } (start N vs) H) : FnG P w K mg base (k + 1) f fd ps sp := by
  obtain ⟨oc, od, kV, doc, pm, an, cdv, ct, osl, rfl, lk, hcd⟩ := F.ex
  constructor
  intro A outer s H args us vs Q E hg room env binds vals want
  -- the body's reading, at this place
  obtain ⟨t, body, start_⟩ := hbody cdv A outer s H vs Q E hg (room.deeper _) want
  have up := fun b o e => (env.bs b o e).1
  have KX : K.In s.heap := env.mod.kin.keeps up
  have slots : ∀ y ∈ ps.zip us, (defScope st).names.lookup y.1 = some .local ∨ ((defScope st).names.lookup y.1 = some .cell ∧ ((cellsFrom (s.heap.objs.size + 1) (defScope st).names []).lookup y.1).isSome = true) := fun y hy =>
    (S.par y.1 (List.of_mem_zip (a := y.1) (b := y.2) hy).1).imp id fun q => ⟨q, PySem.W.cellsFrom_some _ _ _ (.inl q)⟩
  refine codeAny_call_function room.depth (KX _ _ lk) rfl S.co S.gen rfl (PySem.W.codeRec_of KX hcd) (binds _ _ _ _ (wpAny_newFunctionEnv_cells S.kind slots fun en eq s1 made => ?_))
  subst eq
  refine ⟨(env.mod.nolimit.keeps up).keeps made.toInCall.keep, codeAny_func ?_⟩
  have I := inv_start (CX := CX0) (E := E) S room.hd env (len _ _ _ _ want) vals made
  refine wpAny_mono (body.nox.run [] s1 (start N vs) H _ I start_) (fun fl s' h => ?_) fun _ _ h => h
  have told : ∀ {σ' : L2.St} {H' : Hp} {v : V} {u : Value}, Inv (cxOf CX0 P w K mg base N qual (defScope st) f cdv A outer s H E) [] σ' H' s' → RelV v u → Q v H' → CE outer P w H s Q u s' := fun J r q => ⟨_, _, J.os, J.bare, J.base, J.hok, r, q⟩
  match fl, h with
  | .ret u, ⟨v, σ', H', J, r, q⟩ => exact told J r q
  | .next, ⟨σ', H', J, q⟩ => exact told (v := V.non) (u := Value.none) J rfl q
  | .brk, ⟨_, _, _, q⟩ => exact q.elim
  | .cont, ⟨_, _, _, q⟩ => exact q.elim
/-- the heap of which a law's call starts: the script is told, where it is no object of the module, and nothing else -/
theorem script_heap {P : Program} {w : World} {K : PySem.W.Frag} {h : Heap} {a : Addr} {vs : List Value} {ns : List Int} (KX : K.In h) (ha : h.get? a = some { cls := .type "list", data := .seq vs.toArray }) (hi : IntsAre vs ns) (hl : ns.length ≤ sizeLine) :
    ∃ H : Hp, Only H ∧ SqL K H a (ns.map V.int) ∧ HOk P w H h ∧ ∀ b, H b ≠ none → b = a ∧ K.lookup a = none := by
  have rv := vals_ints hi
  by_cases hk : ∃ o, K.lookup a = some o
  · obtain ⟨o, hk⟩ := hk
    have e := (KX a o hk).symm.trans ha
    cases e
    exact ⟨fun _ => none, fun _ => .inl rfl, .inr ⟨_, vs.toArray, _, hk, rfl, rfl, rfl, by rw [List.size_toArray, hi.length]; exact hl, by simpa using rv⟩, (fun b u z => nomatch z), fun b z => absurd rfl z⟩
  · have hk : K.lookup a = none := by
      cases e : K.lookup a with
      | none => rfl
      | some o => exact absurd ⟨o, e⟩ hk
    refine ⟨upd (fun _ => none) a (.frz { cls := .type "list", data := .seq vs.toArray } (.lst (ns.map V.int))), fun b => ?_, .inl (.inr ⟨_, upd_same⟩), fun b u z => ?_, fun b z => ?_⟩
    · by_cases hb : b = a
      · subst hb; exact .inr ⟨_, _, upd_same⟩
      · exact .inl (upd_ne hb)
    · by_cases hb : b = a
      · subst hb
        obtain rfl := Option.some.inj (upd_same.symm.trans z)
        exact ⟨ha, by rw [List.length_map]; exact hl, vs, _, rv, ha⟩
      · rw [upd_ne hb] at z
        cases z
    · by_cases hb : b = a
      · exact ⟨hb, hk⟩
      · exact absurd (upd_ne hb) z
/-- a law's end, its def promised where no repr is under way -/
theorem walk_ofG {l : PySem.W.OpenLaw} {n k : Nat} {q : Program} {loose : List Str} {XP : (Str → Option Value) → Heap → Prop} {YP : World → Heap → Prop} {d : DefRec} {K : Params → PySem.W.Frag} {sp : World → Sp} {x : Str}
    (hn : l.most = some n) (hn2 : n ≤ sizeLine) (hdf : d.params.defaults = []) (room : Room k callerA) (hY : ∀ (w : World) (h : Heap), YP w h → (K w.params).In h)
    (F : ∀ (w : World) (mg : Str → Option Value) (fa : Addr) (h : Heap), (K w.params).In h → h.Ns mainGlobals mg → mg d.name = some (.ref fa) →
      ∃ fd : FuncData, (∀ (s : Shared) (u : Value), BindsTo s fd ⟨[u], []⟩ [(x, u)]) ∧ ∀ base : Heap, (K w.params).In base → base.Ns mainGlobals mg → FnG l.prog w (K w.params) mg base k fa fd [x] (sp w))
    (start_ : ∀ (w : World) (H : Hp) (a : Addr) (ns : List Int), ns.length ≤ n → Only H → SqL (K w.params) H a (ns.map V.int) → sp w [.ref a] H (fun v _ => v = .bl true) fun _ _ _ => False) :
    PySem.W.WalkO q loose XP YP l.row.toRowW d [] (fun f vs => PySem.call f vs) := by
  refine Att.attach_call hn hdf fun w s₀ s₁ mg mb fa o pm cd doc a vs ns_ G Y _ _ _ hmg hobj hints hlen hgen => ?_
  have KX := hY w _ Y
  obtain ⟨fd, binds, promise⟩ := F w mg fa _ KX G.T.g hmg
  obtain ⟨H, only, script, hok, own⟩ := script_heap (P := l.prog) (w := w) KX hobj hints (Nat.le_trans hlen hn2)
  -- all that is written, and every dict, is apart from the script
  have free : ∀ {b : Addr}, (b = a → (K w.params).lookup a ≠ none ∨ ∃ (ob : Obj) (es : Array DictEntry) (ep : Nat), s₁.heap.get? a = some ob ∧ ob.data = .dict es ep) → H b = none := fun {b} other => by
    cases z : H b with
    | none => rfl
    | some u =>
      obtain ⟨e1, e2⟩ := own b (by rw [z]; simp)
      rcases other e1 with c | ⟨ob, es, ep, c1, c2⟩
      · exact absurd e2 c
      · rw [hobj] at c1
        cases c1
        cases c2
  have ns : ∀ {b : Addr} {m : Str → Option Value}, s₁.heap.Ns b m → (hidT s₁.heap H).Ns b m := fun {b m} ⟨ob, es, ep, e, dt, r⟩ =>
    ⟨ob, es, ep, hidT_get e (free fun z => .inr ⟨ob, es, ep, z ▸ e, dt⟩), dt, r⟩
  have KB : (K w.params).In (hidT s₁.heap H) := fun b ob e => hidT_get (KX b ob e) (free fun z => .inl (by rw [← z, e]; simp))
  obtain ⟨mc, l1, l2⟩ := G.T.nolimit
  have env : Env0 l.prog w (K w.params) mg (hidT s₁.heap H) callerA [] s₁ H :=
    { frames := rfl, mod := ⟨KB, ns G.T.g, ⟨mb, ns G.T.b, G.T.builtins⟩, mc, ns l1, l2⟩, bs := fun _ _ e => of_hidT e, bsz := Nat.le_of_eq (hidT_size _ _), funs := trivial, frf := (fun _ m => nomatch m), hok := hok, bare := .of_eq hgen }
  refine codeAny_mono ((promise _ KB (ns G.T.g)).run callerA [] s₁ H ⟨[.ref a], []⟩ [.ref a] [.ref a] _ _ rfl room env (binds s₁ (.ref a)) (.cons rfl .nil) (start_ w H a ns_ hlen only script)) fun r s' h => ?_
  match r, h with
  | .ok (.ret u), ⟨v, H', os, bare, un, hok', rel, (q : v = .bl true)⟩ =>
    subst q
    obtain rfl : u = Value.bool true := rel
    refine ⟨rfl, OldK.of_keep fun b ob e => ?_, os, bare⟩
    rcases only b with z | ⟨o2, xs, z⟩
    · exact un.keep b ob e z (fun m => nomatch m) (fun m => nomatch m)
    · have e2 := (hok' b _ (un.frzs b o2 _ z)).1
      rw [(hok b _ z).1] at e
      cases e
      exact e2
end SH
set_option Elab.async false
set_option linter.all false
set_option maxRecDepth 100000
set_option maxHeartbeats 4000000
/-! repr of data -/
namespace SH
open PySem PySem.Spec PyProof.Rows L2
/-- data whose repr is a text of bounded length -/
structure Shw (d : PyData) (n w : Nat) : Prop where
  lay : d.canLay0 = true
  deep : d.depth ≤ n
  wt : d.weight ≤ w
  sint : d.intsShort 13 = true
  shows : d.showable = true
  nd : d.hasDict = false
theorem Shw.mono {d : PyData} {n w n' w' : Nat} (h : Shw d n w) (h1 : n ≤ n') (h2 : w ≤ w') : Shw d n' w' := ⟨h.lay, Nat.le_trans h.deep h1, Nat.le_trans h.wt h2, h.sint, h.shows, h.nd⟩
theorem shw_int {i : Int} (h : i.natAbs < 10 ^ 12) : Shw (.int i) 0 41 := by
  have l : i.natAbs.log2 < 40 := by
    by_cases z : i.natAbs = 0
    · rw [z]; decide
    · exact (Nat.log2_lt z).mpr (Nat.lt_trans h (by decide))
  refine ⟨rfl, Nat.zero_le _, ?_, ?_, ?_, rfl⟩
  · show (if i == 0 then 0 else i.natAbs.log2 + 1) ≤ 41
    split <;> omega
  · show decide _ = true
    exact decide_eq_true (PyData.shown_int_le h)
  · show decide (i.natAbs.log2 < 1920) = true
    exact decide_eq_true (by omega)
theorem shw_str {z : Str} (h : PyData.strOk z = true) : Shw (.str z) 0 z.length := ⟨h, Nat.zero_le _, Nat.le_refl _, rfl, rfl, rfl⟩
theorem shw_all {n w : Nat} : ∀ {ds : List PyData}, (∀ d ∈ ds, Shw d n w) → PyData.canLayAll0 ds = true ∧ PyData.depthAll ds ≤ n ∧ PyData.weightAll ds ≤ ds.length * (w + 1) ∧ PyData.intsShortAll 13 ds = true ∧ PyData.showableAll ds = true ∧ PyData.hasDictAll ds = false
  | [], _ => ⟨rfl, Nat.zero_le _, Nat.zero_le _, rfl, rfl, rfl⟩
  | d :: ds, h => by
    have h1 := h d (List.mem_cons_self ..)
    obtain ⟨a1, a2, a3, a4, a5, a6⟩ := shw_all fun x m => h x (List.mem_cons_of_mem _ m)
    have b2 := h1.deep
    have b3 := h1.wt
    refine ⟨?_, ?_, ?_, ?_, ?_, ?_⟩
    · rw [PyData.canLayAll0, h1.lay, a1]; rfl
    · rw [PyData.depthAll]; omega
    · rw [PyData.weightAll, List.length_cons, Nat.succ_mul]; omega
    · rw [PyData.intsShortAll, h1.sint, a4]; rfl
    · rw [PyData.showableAll, h1.shows, a5]; rfl
    · rw [PyData.hasDictAll, h1.nd, a6]; rfl
theorem shw_list {n w : Nat} {ds : List PyData} (h : ∀ d ∈ ds, Shw d n w) : Shw (.list ds) (n + 1) (ds.length * (w + 1)) := by
  obtain ⟨a1, a2, a3, a4, a5, a6⟩ := shw_all h
  exact ⟨by rw [PyData.canLay0]; exact a1, by rw [PyData.depth]; omega, by rw [PyData.weight]; exact a3, by rw [PyData.intsShort]; exact a4, by rw [PyData.showable]; exact a5, by rw [PyData.hasDict]; exact a6⟩
theorem shw_tup {n w : Nat} {ds : List PyData} (h : ∀ d ∈ ds, Shw d n w) : Shw (.tuple ds) (n + 1) (ds.length * (w + 1)) := by
  obtain ⟨a1, a2, a3, a4, a5, a6⟩ := shw_all h
  exact ⟨by rw [PyData.canLay0]; exact a1, by rw [PyData.depth]; omega, by rw [PyData.weight]; exact a3, by rw [PyData.intsShort]; exact a4, by rw [PyData.showable]; exact a5, by rw [PyData.hasDict]; exact a6⟩
theorem Shw.okd {d : PyData} {n w : Nat} (h : Shw d n w) (hn : n ≤ 60) : Okd d := ⟨h.lay, Nat.le_trans h.deep hn⟩
theorem Shw.fits {d : PyData} {n w : Nat} (h : Shw d n w) (hn : n ≤ 60) (hw : w ≤ 1048576) : d.shown.length ≤ 15728653 := by
  refine PyData.shown_le_of_layable0 ?_ h.sint
  have e : (2 : Nat) ^ 20 = 1048576 := by decide
  show (PyData.canLay0 d && decide (PyData.depth d ≤ 64) && decide (PyData.weight d ≤ 2 ^ 20)) = true
  rw [h.lay, decide_eq_true (by have := h.deep; omega), decide_eq_true (by have := h.wt; omega)]
  rfl
/-- repr(list), repr(tuple) -/
def rRepr (K : PySem.W.Frag) : List V → Hp → VK → Prop := fun xs H Q => ∃ (a : Addr) (d : PyData) (n w : Nat), xs = [.ref a] ∧ Dp K H (.ref a) d ∧ Shw d n w ∧ n ≤ 60 ∧ w ≤ 1048576 ∧ Q (.str d.shown) H
theorem call_reprK {X : Cx} {K : PySem.W.Frag} (hg : X.A.guards = some []) (hu : X.A.units + 64 < cLine) (h : X.K = K := by rfl) : CallR X (.builtin "repr") (rRepr K) := by
  subst h
  intro pins s σ H vs us Q I r q
  obtain ⟨a, d, n, w, rfl, dp, sh, hn, hw, q⟩ := q
  rw [Vals.ref1 r]
  obtain ⟨as, rd⟩ := Dp.reads I d (.ref a) (.ref a) dp rfl
  refine repr_of_reads' rd sh.shows (PyData.noDict_hsm sh.nd) hg (by have := sh.deep; omega) (fun _ _ e => e) (fun h' u tk keep => ?_) (Nat.le_trans (sh.fits hn hw) (by decide))
  exact ⟨.str d.shown, H, I.kept keep, ⟨u, rfl⟩, q⟩
end SH
set_option Elab.async false
set_option linter.all false
set_option maxRecDepth 100000
set_option maxHeartbeats 4000000
/-! dicts whose values are data: compared, and told by repr -/
namespace SH
open PySem PySem.Spec PyProof.Rows L2
section
variable {K : PySem.W.Frag} {H H' : Hp}
mutual
theorem Dp.same (e : Same H H') : ∀ (d : PyData) (v : V), Dp K H v d → Dp K H' v d
  | .none, _, h => by cases h; exact .non
  | .bool b, _, h => by cases h; exact .bl b
  | .int i, _, h => by cases h; exact .int i
  | .str x, _, h => by cases h; exact .str x
  | .list ds, _, h => by
    cases h with
    | lst a b => exact .lst (e.seq a) (DpAll.same e ds _ b)
  | .tuple ds, _, h => by
    cases h with
    | tup a b => exact .tup (same_tup e a) (DpAll.same e ds _ b)
  | .dict _, _, h => by cases h
theorem DpAll.same (e : Same H H') : ∀ (ds : List PyData) (vs : List V), DpAll K H vs ds → DpAll K H' vs ds
  | [], _, h => by cases h; exact .nil
  | d :: ds, _, h => by
    cases h with
    | cons a b => exact .cons (Dp.same e d _ a) (DpAll.same e ds _ b)
end
end
abbrev CD := List (Key × PyData)
def lookD (C : CD) (k : Key) : Option PyData := (C.find? fun c => decide (c.1 = k)).map (·.2)
def hitsD (E : CD) : CD → Bool
  | [] => true
  | c :: r => match lookD E c.1 with
    | none => false
    | some l => PyData.eqv c.2 l && hitsD E r
def RowD (K : PySem.W.Frag) (H : Hp) : List (Key × V) → CD → Prop := Paired fun p c => p.1 = c.1 ∧ Dp K H p.2 c.2 ∧ SeqAt.shaped c.2 = true
theorem RowD.look {K : PySem.W.Frag} {H : Hp} {ls : List (Key × V)} {E : CD} (h : RowD K H ls E) (k : Key) : (valV ls k = none ∧ lookD E k = none) ∨ ∃ v d, valV ls k = some v ∧ lookD E k = some d ∧ Dp K H v d ∧ SeqAt.shaped d = true := by
  unfold RowD at h
  induction h with
  | nil => exact .inl ⟨rfl, rfl⟩
  | @cons p c ps cs hh t ih =>
    obtain ⟨h1, h2, h3⟩ := hh
    by_cases e : p.1 = k
    · refine .inr ⟨p.2, c.2, valV_pos e, ?_, h2, h3⟩
      unfold lookD
      rw [List.find?_cons_of_pos (by simp [← h1, e])]
      rfl
    · rw [valV_neg e]
      unfold lookD
      rw [List.find?_cons_of_neg (by simp [← h1, e])]
      exact ih
theorem hits_dd {X : Cx} {pins : List (Addr × Obj)} {σ : L2.St} {H : Hp} {s : Shared} (I : Inv X pins σ H s) {A : Around} (hu : A.units + 64 < cLine) {ls : List (Key × V)} {vb : List (Key × Value)} (rb : KV ls vb) {E : CD} (hE : RowD X.K H ls E) :
    ∀ {C : CD} {ks : List (Key × V)} {va : List (Key × Value)}, KV ks va → RowD X.K H ks C → PySem.W.KeqHits A s vb va (hitsD E C)
  | [], _, _, ra, h => by
    cases h
    cases ra
    exact .nil
  | c :: r, _, _, ra, h => by
    cases h with
    | @cons p _ ps _ hh t =>
      cases ra with
      | @cons _ q _ qs rr rt =>
        obtain ⟨h1, h2, h3⟩ := hh
        obtain ⟨r1, r2⟩ := rr
        have ih := hits_dd I hu rb hE (C := r) rt t
        obtain ⟨key, v⟩ := q
        have ek : key = c.1 := by rw [← h1]; exact r1.symm
        have rv := rb.val c.1
        unfold hitsD
        rcases hE.look c.1 with ⟨n1, n2⟩ | ⟨y, d, n1, n2, n3, n4⟩
        · rw [n2]
          rw [n1] at rv
          exact .miss (by rw [ek]; exact rv.none_of)
        · rw [n2]
          rw [n1] at rv
          obtain ⟨u, hu2, ru⟩ := rv.some_of
          obtain ⟨as, ra1⟩ := Dp.reads I c.2 p.2 v h2 r2
          obtain ⟨bs, rb1⟩ := Dp.reads I d y u n3 ru
          exact .hit (by rw [ek]; exact hu2) (SeqAt.eqAt_reads c.2 d A s v u as bs ra1 rb1 (SeqAt.canLay_of_shaped h3) (SeqAt.canLay_of_shaped n4) (SeqAt.room_of_shaped h3 hu)) ih
def sameD (C E : CD) : Bool := decide (C.length = E.length) && hitsD E C
def rEqDD (K : PySem.W.Frag) : R2 := fun x y H Q => ∃ a b ks ls C E, x = .ref a ∧ y = .ref b ∧ H a = some (.dK ks) ∧ H b = some (.dK ls) ∧ RowD K H ks C ∧ RowD K H ls E ∧ Q (.bl (sameD C E)) H
def rNeDD (K : PySem.W.Frag) : R2 := fun x y H Q => ∃ a b ks ls C E, x = .ref a ∧ y = .ref b ∧ H a = some (.dK ks) ∧ H b = some (.dK ls) ∧ RowD K H ks C ∧ RowD K H ls E ∧ Q (.bl (!sameD C E)) H
section
variable {X : Cx}
theorem op_eqDD0 (hu : X.A.units + 66 < cLine) : OpR X (compareOp .Eq) (rEqDD X.K) := by
  intro pins s σ H x y v u Q I rx ry h
  obtain ⟨a, b, ks, ls, C, E, rfl, rfl, ea, eb, h1, h2, q⟩ := h
  obtain rfl : v = Value.ref a := rx
  obtain rfl : u = Value.ref b := ry
  obtain ⟨_, ya, va, ra, da⟩ := (show ObjOk X.prog X.w H s.heap a (.dK ks) from I.hok a _ ea)
  obtain ⟨_, yb, vb, rb, db⟩ := (show ObjOk X.prog X.w H s.heap b (.dK ls) from I.hok b _ eb)
  have l1 : va.length = C.length := by rw [← ra.length]; exact Paired.length h1
  have l2 : vb.length = E.length := by rw [← rb.length]; exact Paired.length h2
  exact PySem.W.keq_eq (knd := mixKind X.prog X.w) (r := hitsD E C) ya yb da db (by omega) (fun _ => hits_dd I (A := X.A.in1) (by show X.A.units + 1 + 64 < cLine; omega) rb h2 ra h1) (fin_bl I q (by unfold sameD; rw [l1, l2]; congr 1))
theorem op_neDD0 (hu : X.A.units + 66 < cLine) : OpR X (compareOp .NotEq) (rNeDD X.K) := by
  intro pins s σ H x y v u Q I rx ry h
  obtain ⟨a, b, ks, ls, C, E, rfl, rfl, ea, eb, h1, h2, q⟩ := h
  obtain rfl : v = Value.ref a := rx
  obtain rfl : u = Value.ref b := ry
  obtain ⟨_, ya, va, ra, da⟩ := (show ObjOk X.prog X.w H s.heap a (.dK ks) from I.hok a _ ea)
  obtain ⟨_, yb, vb, rb, db⟩ := (show ObjOk X.prog X.w H s.heap b (.dK ls) from I.hok b _ eb)
  have l1 : va.length = C.length := by rw [← ra.length]; exact Paired.length h1
  have l2 : vb.length = E.length := by rw [← rb.length]; exact Paired.length h2
  exact PySem.W.keq_ne (knd := mixKind X.prog X.w) (r := hitsD E C) ya yb da db (by omega) (fun _ => hits_dd I (A := X.A.in1) (by show X.A.units + 1 + 64 < cLine; omega) rb h2 ra h1) (fin_bl I q (by unfold sameD; rw [l1, l2]; congr 2))
end
theorem op_eqDDK {X : Cx} {K : PySem.W.Frag} {k : Nat} (hr : Room k X.A) (h : X.K = K := by rfl) : OpR X (compareOp .Eq) (rEqDD K) := h ▸ op_eqDD0 (by have := hr.un; omega)
theorem op_neDDK {X : Cx} {K : PySem.W.Frag} {k : Nat} (hr : Room k X.A) (h : X.K = K := by rfl) : OpR X (compareOp .NotEq) (rNeDD K) := h ▸ op_neDD0 (by have := hr.un; omega)
/-! ### repr -/
def dKey : Key → PyData
  | .inl i => .int i
  | .inr z => .str z
def dDict (C : CD) : PyData := .dict (C.map fun c => (dKey c.1, c.2))
def KOk : Key → Prop
  | .inl i => i.natAbs < 10 ^ 12
  | .inr z => PyData.strOk z = true ∧ z.length ≤ 60
/-- a thing told: without a dict, or a dict of such -/
inductive Rp (K : PySem.W.Frag) (H : Hp) : V → PyData → Nat → Prop
  | flat {v : V} {d : PyData} {n w : Nat} : Dp K H v d → Shw d n w → n ≤ 50 → Rp K H v d w
  | dict {a : Addr} {kvs : List (Key × V)} {C : CD} {n w : Nat} : H a = some (.dK kvs) → Paired (fun p c => p.1 = c.1 ∧ Dp K H p.2 c.2) kvs C → (∀ c ∈ C, KOk c.1 ∧ Shw c.2 n w) → n ≤ 50 → Rp K H (.ref a) (dDict C) (C.length * (w + 62))
theorem key_shw : ∀ {k : Key}, KOk k → Shw (dKey k) 0 60
  | .inl i, h => (shw_int h).mono (Nat.le_refl _) (by decide)
  | .inr z, h => (shw_str h.1).mono (Nat.le_refl _) h.2
theorem Shw.leaves {d : PyData} {n w : Nat} (h : Shw d n w) : d.leavesShort 13 = true := PyData.leavesShort_of_canLay0 13 d h.lay h.sint
theorem kv_all {n w : Nat} : ∀ {C : CD}, (∀ c ∈ C, KOk c.1 ∧ Shw c.2 n w) → PyData.leavesShortKv 13 (C.map fun c => (dKey c.1, c.2)) = true ∧ PyData.depthKv (C.map fun c => (dKey c.1, c.2)) ≤ n ∧ PyData.weightKv (C.map fun c => (dKey c.1, c.2)) ≤ C.length * (w + 62) ∧ PyData.showableKv (C.map fun c => (dKey c.1, c.2)) = true ∧
    PyData.hasDictAll ((C.map fun c => (dKey c.1, c.2)).map (·.1)) = false ∧ PyData.hasDictAll ((C.map fun c => (dKey c.1, c.2)).map (·.2)) = false
  | [], _ => ⟨rfl, Nat.zero_le _, Nat.zero_le _, rfl, rfl, rfl⟩
  | c :: r, h => by
    obtain ⟨h1, h2⟩ := h c (List.mem_cons_self ..)
    obtain ⟨a1, a2, a3, a4, a5, a6⟩ := kv_all fun x m => h x (List.mem_cons_of_mem _ m)
    have k1 := key_shw h1
    have k2 := k1.deep
    have k3 := k1.wt
    have b2 := h2.deep
    have b3 := h2.wt
    simp only [List.map_cons]
    refine ⟨?_, ?_, ?_, ?_, ?_, ?_⟩
    · rw [PyData.leavesShortKv, k1.leaves, h2.leaves, a1]; rfl
    · rw [PyData.depthKv]; omega
    · rw [PyData.weightKv, List.length_cons, Nat.succ_mul]; omega
    · rw [PyData.showableKv, k1.shows, h2.shows, a4]; rfl
    · rw [PyData.hasDictAll, k1.nd, a5]; rfl
    · rw [PyData.hasDictAll, h2.nd, a6]; rfl
/-- what holds of such a thing -/
structure RpOk (d : PyData) (w : Nat) : Prop where
  lv : d.leavesShort 13 = true
  dp : d.depth ≤ 51
  wt : d.weight ≤ w
  sh : d.showable = true
theorem Rp.ok {K : PySem.W.Frag} {H : Hp} {v : V} {d : PyData} {w : Nat} (h : Rp K H v d w) : RpOk d w := by
  cases h with
  | flat h1 h2 h3 => exact ⟨h2.leaves, Nat.le_trans h2.deep (by omega), h2.wt, h2.shows⟩
  | @dict a kvs C n w h1 h2 h3 h4 =>
    obtain ⟨a1, a2, a3, a4, _⟩ := kv_all h3
    unfold dDict
    refine ⟨?_, ?_, ?_, ?_⟩
    · rw [PyData.leavesShort]; exact a1
    · rw [PyData.depth]; omega
    · rw [PyData.weight]; exact a3
    · rw [PyData.showable]; exact a4
theorem pairs_reads {X : Cx} {pins : List (Addr × Obj)} {σ : L2.St} {H : Hp} {s : Shared} (I : Inv X pins σ H s) : ∀ {C : CD} {es : List DictEntry} {vs : List (Key × Value)} {kvs : List (Key × V)}, Pairs (mixKind X.prog X.w) es vs → KV kvs vs → Paired (fun p c => p.1 = c.1 ∧ Dp X.K H p.2 c.2) kvs C →
    (∃ as, ReadsAll s.heap (es.map (·.key)) ((C.map fun c => (dKey c.1, c.2)).map (·.1)) as) ∧ ∃ bs, ReadsAll s.heap (es.map (·.val)) ((C.map fun c => (dKey c.1, c.2)).map (·.2)) bs
  | [], _, _, _, hp, r, h => by
    cases h
    cases r
    cases hp
    exact ⟨⟨_, .nil⟩, ⟨_, .nil⟩⟩
  | c :: C, _, _, _, hp, r, h => by
    cases h with
    | @cons p _ ps _ hh t =>
      cases r with
      | @cons _ q _ qs rr rt =>
        cases hp with
        | @cons e _ es _ h1 h2 h3 =>
          obtain ⟨⟨as, r1⟩, ⟨bs, r2⟩⟩ := pairs_reads I h3 rt t
          obtain ⟨cs, r3⟩ := Dp.reads I c.2 p.2 q.2 hh.2 rr.2
          have hk : Reads s.heap e.key (dKey c.1) [] := by
            rw [← hh.1, rr.1]
            rcases keyIs_shape (show keyIs q.1 e.key = true from h1) with ⟨i, t, e1, e2⟩ | ⟨z, t, e1, e2⟩
            · rw [e1, e2]; exact .int i t
            · rw [e1, e2]; exact .str z t
          exact ⟨⟨_, .cons hk r1⟩, ⟨_, .cons (by show Reads s.heap e.val c.2 cs; rw [h2]; exact r3) r2⟩⟩
theorem Rp.run {X : Cx} {pins : List (Addr × Obj)} {σ : L2.St} {H : Hp} {s : Shared} (I : Inv X pins σ H s) {v : V} {d : PyData} {u : Value} {w : Nat} (h : Rp X.K H v d w) (r : RelV v u) (hz : d.shown.length ≤ sizeLine) :
    (∃ as, Reads s.heap u d as) ∧ ∃ bs, ReadAtMost s.heap d.depth bs ∧ ReprK X.prog X.w bs s.heap d.depth u d.shown := by
  cases h with
  | flat h1 h2 h3 =>
    obtain ⟨as, rd⟩ := Dp.reads I d v u h1 r
    exact ⟨⟨_, rd⟩, ReprK.of_reads rd h2.shows (PyData.noDict_hsm h2.nd) hz⟩
  | @dict a kvs C n w h1 h2 h3 h4 =>
    obtain rfl : u = Value.ref a := r
    obtain ⟨_, hsys, vs, rv, da⟩ := (show ObjOk X.prog X.w H s.heap a (.dK kvs) from I.hok a _ h1)
    obtain ⟨o, es, ep, ho, hx, hd, _, hp, _⟩ := da
    obtain ⟨⟨as₁, r4⟩, ⟨bs₁, r5⟩⟩ := pairs_reads I hp rv h2
    obtain ⟨_, a2, _, a4, a5, a6⟩ := kv_all h3
    have rd : Reads s.heap (.ref a) (dDict C) _ := .dict ho hx.1 hd r4 r5
    refine ⟨⟨_, rd⟩, ?_⟩
    unfold dDict at hz rd ⊢
    generalize eC : (C.map fun c => (dKey c.1, c.2)) = kvd at *
    have hz' : (dictText (PyData.shownKv kvd)).length ≤ sizeLine := by simpa only [PyData.shown] using hz
    obtain ⟨hs1, hs2⟩ := PyData.showableKv_split kvd a4
    obtain ⟨b1, hb1, k1⟩ := ReprAllK.of_readsAll (prog := X.prog) (w := X.w) r4 hs1 (fun hm => by rw [a5] at hm; cases hm) (fun t ht => let ⟨p, hp, hl⟩ := PyData.shownKv_key_le kvd t ht; Nat.le_trans hl (Nat.le_trans (dictText_mem_le hp) hz'))
    obtain ⟨b2, hb2, k2⟩ := ReprAllK.of_readsAll (prog := X.prog) (w := X.w) r5 hs2 (fun hm => by rw [a6] at hm; cases hm) (fun t ht => let ⟨p, hp, hl⟩ := PyData.shownKv_val_le kvd t ht; Nat.le_trans hl (Nat.le_trans (dictText_mem_le hp) hz'))
    have hb : ReadAtMost s.heap (PyData.depthKv kvd) (b1 ++ b2) := (hb1.mono (PyData.depthAll_keys_le kvd)).append (hb2.mono (PyData.depthAll_vals_le kvd))
    have hna : a ∉ b1 ++ b2 := not_mem_of_deeper rd (by simp only [PyData.depth]; omega) hb
    refine ⟨a :: (b1 ++ b2), ReadAtMost.cons rd (by simp only [PyData.depth]; omega) hb, ?_⟩
    simp only [PyData.depth, PyData.shown, PyData.shownKv_eq]
    exact ReprK.dict ho hx.1 hd hsys hna (ReprEntriesK.of_two es.toList _ _
      (k1.more_le (fun b hb => List.mem_append_left _ hb) (PyData.depthAll_keys_le kvd)) (k2.more_le (fun b hb => List.mem_append_right _ hb) (PyData.depthAll_vals_le kvd)))
/-- things side by side, of so much weight -/
inductive RpAll (K : PySem.W.Frag) (H : Hp) : List V → List PyData → Nat → Prop
  | nil : RpAll K H [] [] 0
  | cons {v : V} {vs : List V} {d : PyData} {ds : List PyData} {w n : Nat} : Rp K H v d w → RpAll K H vs ds n → RpAll K H (v :: vs) (d :: ds) (w + 1 + n)
theorem RpAll.ok {K : PySem.W.Frag} {H : Hp} {vs : List V} {ds : List PyData} {w : Nat} (h : RpAll K H vs ds w) : PyData.leavesShortAll 13 ds = true ∧ PyData.depthAll ds ≤ 51 ∧ PyData.weightAll ds ≤ w ∧ PyData.showableAll ds = true := by
  induction h with
  | nil => exact ⟨rfl, Nat.zero_le _, Nat.zero_le _, rfl⟩
  | cons h1 _ ih =>
    obtain ⟨b1, b2, b3, b4⟩ := h1.ok
    obtain ⟨a1, a2, a3, a4⟩ := ih
    refine ⟨?_, ?_, ?_, ?_⟩
    · rw [PyData.leavesShortAll, b1, a1]; rfl
    · rw [PyData.depthAll]; omega
    · rw [PyData.weightAll]; omega
    · rw [PyData.showableAll, b4, a4]; rfl
theorem RpAll.run {X : Cx} {pins : List (Addr × Obj)} {σ : L2.St} {H : Hp} {s : Shared} (I : Inv X pins σ H s) {vs : List V} {ds : List PyData} {w : Nat} (h : RpAll X.K H vs ds w) : ∀ {us : List Value}, Vals vs us → (∀ t ∈ PyData.shownAll ds, t.length ≤ sizeLine) →
    (∃ as, ReadsAll s.heap us ds as) ∧ ∃ bs, ReadAtMost s.heap (PyData.depthAll ds) bs ∧ ReprAllK X.prog X.w bs s.heap (PyData.depthAll ds) us (PyData.shownAll ds) := by
  induction h with
  | nil =>
    intro us r hz
    cases r
    exact ⟨⟨_, .nil⟩, [], (fun _ h => nomatch h), by simp only [PyData.shownAll]; exact .nil⟩
  | @cons v vs d ds w n h1 h2 ih =>
    intro us r hz
    cases r with
    | @cons _ u _ us r1 r2 =>
      obtain ⟨⟨as, q1⟩, b1, hb1, k1⟩ := h1.run I r1 (hz _ (by simp only [PyData.shownAll]; exact List.mem_cons_self ..))
      obtain ⟨⟨bs, q2⟩, b2, hb2, k2⟩ := ih r2 (fun t ht => hz t (by simp only [PyData.shownAll]; exact List.mem_cons_of_mem _ ht))
      refine ⟨⟨_, .cons q1 q2⟩, b1 ++ b2, ?_, ?_⟩
      · intro b hm
        simp only [PyData.depthAll]
        rcases List.mem_append.mp hm with hm | hm
        · obtain ⟨d', as', r', hd'⟩ := hb1 b hm
          exact ⟨d', as', r', Nat.le_trans hd' (Nat.le_max_left _ _)⟩
        · obtain ⟨d', as', r', hd'⟩ := hb2 b hm
          exact ⟨d', as', r', Nat.le_trans hd' (Nat.le_max_right _ _)⟩
      · simp only [PyData.depthAll, PyData.shownAll]
        exact .cons ((k1.more fun b hb => List.mem_append_left _ hb).level_le (Nat.le_max_left _ _)) (k2.more_le (fun b hb => List.mem_append_right _ hb) (Nat.le_max_right _ _))
/-- repr of a tuple of such things -/
def rReprD (K : PySem.W.Frag) : List V → Hp → VK → Prop := fun vs H Q => ∃ (a : Addr) (xs : List V) (ds : List PyData) (w : Nat), vs = [.ref a] ∧ SqT K H a xs ∧ RpAll K H xs ds w ∧ w ≤ 1048576 ∧ Q (.str (PyData.shown (.tuple ds))) H
theorem call_reprD {X : Cx} {K : PySem.W.Frag} (hg : X.A.guards = some []) (hu : X.A.units + 64 < cLine) (h : X.K = K := by rfl) : CallR X (.builtin "repr") (rReprD K) := by
  subst h
  intro pins s σ H vs us Q I r q
  obtain ⟨a, xs, ds, w, rfl, hT, hD, hw, q⟩ := q
  rw [Vals.ref1 r]
  obtain ⟨its, rv, ⟨o, h1, h2, n, h3⟩, _⟩ := I.tuple hT
  obtain ⟨b1, b2, b3, b4⟩ := hD.ok
  have hz : (PyData.shown (.tuple ds)).length ≤ sizeLine := PyData.shown_fits (B := 13) (by decide) (by decide) (by rw [PyData.leavesShort]; exact b1) (by rw [PyData.weight]; exact Nat.le_trans (Nat.le_trans b3 hw) (by decide))
  have hz' : (tupleText (PyData.shownAll ds)).length ≤ sizeLine := by simpa only [PyData.shown] using hz
  obtain ⟨⟨as, h4⟩, bs, hb, hk⟩ := hD.run I rv (fun t ht => Nat.le_trans (tupleText_mem_le ht) hz')
  have hna : a ∉ bs := not_mem_of_deeper (.tuple h1 h2 h3 h4) (by simp only [PyData.depth]; omega) hb
  refine call_repr_slot (A := X.A) (v := Value.ref a) (T := "tuple") (idr := "tuple.__repr__") (s := s) (by omega) (show Shared.TypeIs s (.ref a) "tuple" from ⟨o, h1, h2⟩) PySem.F.slot_tuple_repr ?_
  refine call_tuple_reprK h1 h2 h3 hna hk hg (fun b _ => Clear.nil b) (by show X.A.units + 1 + (PyData.depthAll ds + 1) < cLine; omega) (fun _ _ e => e) (fun h' u tk keep => ?_) hz'
  refine ⟨_, _, rfl, .str (PyData.shown (.tuple ds)), H, I.kept keep, ⟨u, ?_⟩, q⟩
  simp only [PyData.shown]
theorem pe_orTK {X : Cx} {K : PySem.W.Frag} {a b : Expr} {rest : List Expr} {pos : Pos} {ta tb : TE} (ha : PE X a ta) (hb : PE X (.BoolOp .Or (b :: rest) pos) tb) (h : X.K = K := by rfl) : PE X (.BoolOp .Or (a :: b :: rest) pos) (tOrT K ta tb) := h ▸ pe_orT ha hb
end SH
set_option Elab.async false
set_option linter.all false
set_option maxRecDepth 100000
set_option maxHeartbeats 4000000
/-! dict comprehensions whose keys are tuples -/
namespace SH
open PySem PySem.Spec PyProof.Rows L2
theorem d_dictSetT {X : Cx} {pins : List (Addr × Obj)} {σ : L2.St} {H : Hp} {s : Shared} {E : Value → Shared → Prop} {D b : Addr} {kvs : List (List L2.Key × V)} {k : List L2.Key} {v : V} {r : Value} {Q : Unit → Shared → Prop}
    (hu : X.A.units < cLine) (I : Inv X pins σ H s) (hD : H D = some (.dT kvs)) (hb : H b = some (.tup (k.map kV))) (hz : kvs.length < sizeLine) (rv : RelV v r) (h : ∀ s', Inv X pins σ (upd H D (.dT (putK kvs k v))) s' → Q () s') : wpAny (model X.prog X.w) X.A (dictSet D (.ref b) r) Q E s := by
  obtain ⟨z, hd, xs, rel, dd⟩ := dt_of I.hok hD
  have hzl : xs.length ≤ sizeLine := by rw [← Paired.length rel]; exact z
  have hl : (putK kvs k v).length ≤ sizeLine := by have := length_putK kvs k v; omega
  refine wpAny_dictSet_heap (knd := tupleKind (mixKind X.prog X.w)) hu (key_of I.hok hb) dd (fun h' dd' hs => h _ ?_) hzl
  have he : ∃ q, h'.get? D = some q := by
    obtain ⟨q, es, ep, hq, _⟩ := dd'
    exact ⟨q, hq⟩
  have nb : b ≠ D := fun e => by rw [e, hD] at hb; cases hb
  have k2 := (KT.put rel k hb rv).keeps (H' := upd H D (.dT (putK kvs k v))) fun c ys e => by
    rw [upd_ne fun z => by rw [z, hD] at e; cases e]
    exact e
  refine d_write I (by rw [hD]; trivial) hs he ⟨hl, hd, _, k2, ?_⟩
  obtain ⟨q, es, ep, h1, h2, h3, h4, h5⟩ := dd'
  exact ⟨q, es, ep, h1, h2, h3, h4, by first | exact h5 | exact h5.1 | exact h5.2⟩
/-- the entry is put in -/
def bPut (tk tv : TE) (D : Addr) : TBd := fun σ H Nx => tk σ H fun y H1 => tv σ H1 fun z H2 => ∃ (kvs : List (List L2.Key × V)) (k : List L2.Key) (b : Addr), y = .ref b ∧ H2 b = some (.tup (k.map kV)) ∧ H2 D = some (.dT kvs) ∧ kvs.length < sizeLine ∧ Nx (upd H2 D (.dT (putK kvs k z)))
def putRun (kx vx : Expr) (D : Addr) (env : Env) (c : Sem PySem.Fin) : Sem PySem.Fin := do
  (do let kv ← eval kx env
      let vv ← holding [kv] (eval vx env)
      standAt { kx.pos with endLine := vx.pos.endLine, endCol := vx.pos.endCol }
      holding [kv, vv] (dictSet D kv vv))
  c
/-- {kx: vx for tg in iter if ..} with tuples as keys -/
def tDcN (wi : TI) (g : TG) (tt : TT) (vs : List Nat) (bd : Addr → TBd) : TE := fun σ H Q => wi σ H fun J H1 => ∀ D, H1 D = none → tTurns J g tt vs (wipe σ vs) (bd D) (fun H' => Q (.ref D) H') (upd H1 D (.dT []))
section
variable {X : Cx} {elt : Expr}
theorem dcT_core {pins : List (Addr × Obj)} {s : Shared} {σ : L2.St} {H : Hp} {Q : VK} {tg iter : Expr} {ifs : List Expr} {kx vx : Expr} {scope : Scope} {own : List (Str × Nat)} {vb : List Nat} {pos pos' : Pos} {wi : TI} {g : TG} {tt : TT} {bd : Addr → TBd} {BODY : Addr → Env → Sem PySem.Fin → Sem PySem.Fin} {use : Option (Value → Sem Unit)} {Qf : Value → Shared → Prop}
    (hc : X.calm = true) (hN : X.N.Nodup) (I : Inv X pins σ H s) (hi : PI X tg iter wi) (ok : BlkOk X.N X.env.scope scope own) (hv : ∀ i ∈ vb, i ∈ own.map (·.2))
    (heq : ∀ (env : Env) (D : Addr) (it : Value), (model X.prog X.w).den (Code.compLoop (.DictComp kx vx [⟨tg, iter, ifs, 0⟩] scope pos) 0 it (.ref D) env) = (clauseTurn (.DictComp kx vx [⟨tg, iter, ifs, 0⟩] scope pos) 0 it (.ref D) env tg iter ifs (BODY D env)).onRaise (fun x => do noteFrame x env; theTreesLotGoes x))
    (hun : ∀ (env : Env) (D : Addr) (it : Value), X.A.under (Code.compLoop (.DictComp kx vx [⟨tg, iter, ifs, 0⟩] scope pos) 0 it (.ref D) env) = X.A)
    (hg : ∀ (s : Shared) (H : Hp) (C : Addr) (cl : List (Str × Addr)) (fp : List Addr), PG (X.blk s H scope (compEnvC scope cl C X.env) fp) tg g) (ht : ∀ (s : Shared) (H : Hp) (C : Addr) (cl : List (Str × Addr)) (fp : List Addr), PTs (X.blk s H scope (compEnvC scope cl C X.env) fp) ifs tt)
    (hb : ∀ (D : Addr) (s : Shared) (H : Hp) (C : Addr) (cl : List (Str × Addr)) (fp : List Addr), BodyOk (X.blk s H scope (compEnvC scope cl C X.env) fp) (BODY D (compEnvC scope cl C X.env)) (bd D) vb) (hs : ∀ x, foldedSetIterable iter X.env x = pure x)
    (h : tDcN wi g tt (own.map (·.2)) bd σ H Q)
    (hRR : ∀ D C s' m H', Inv X pins σ H' s' → Q (.ref D) H' → s'.heap.Ns C m → FpOk X pins H' C → compPost (model X.prog X.w) X.A X.xe use Qf (.ref D) C (.ok .next) s') :
    wpAny (model X.prog X.w) X.A (comprehension (.DictComp kx vx [⟨tg, iter, ifs, 0⟩] scope pos) scope X.env pos' (newDict [].toArray) false (eval iter X.env) use) Qf X.xe s := by
  have hfree : ∀ y ∈ scope.names, y.2 = .free → ∃ c, X.env.cells.lookup y.1 = some c := fun y hy e => by
    rcases ok.free y hy e with k | k
    · exact I.ok.has _ (.inl k)
    · exact I.ok.has _ (.inr k)
  refine wpAny_comprehension_free (use := use) rfl hs (closure_ok hfree) ok.kind (fun y hy e => by rw [ok.uniq y hy, e])
    (thn (hi.run pins s σ H _ I h) fun xv s1 hx => thn hx fun itv s2 h2 => ?_)
  obtain ⟨it, fp, tn, J, H2, e, I2, T, st2, f2, q⟩ := h2
  subst e
  refine wpAny_newObj_type (newEnv_comp ?_) (Nat.zero_le _)
  generalize hD : s2.heap.objs.size = D
  have hDn : H2 D = none := I2.hok.fresh (Nat.le_of_eq hD)
  have q := q D hDn
  generalize hs3 : ({ s2 with heap := s2.heap.push { cls := .type "dict", dict := none, data := .dict #[] } } : Shared) = s3
  have I3 : Inv X pins σ (upd H2 D (.dT [])) s3 := by
    rw [← hs3]
    refine I2.laid (t' := s2.toks) (fun b o e => Heap.get?_push_of_some _ e) (Nat.le_of_eq hD) ?_
    rw [← hD]
    exact dt_empty _ I2.big
  have h3 : s3.heap = s2.heap.push { cls := .type "dict", dict := none, data := .dict #[] } := by rw [← hs3]
  have sz : ∀ b ∈ fp, b < s2.heap.objs.size := fun b hb => by
    obtain ⟨o, e, _⟩ := T.obj _ _ st2 b hb
    exact Heap.lt_size e
  have f3 : ∀ b ∈ fp, FpOk X pins (upd H2 D (.dT [])) b ∧ b < s3.heap.objs.size := fun b hb => by
    have hlt := sz b hb
    refine ⟨⟨?_, (f2 b hb).2⟩, by rw [h3, Heap.size_push]; exact Nat.lt_succ_of_lt hlt⟩
    rw [upd_ne (by rw [← hD]; exact Nat.ne_of_lt hlt)]
    exact (f2 b hb).1
  have st3 : tn 0 s3.heap := T.keep _ _ _ st2 fun b _ o e => by rw [h3]; exact Heap.get?_push_of_some _ e
  have I4 := block_start I3 ok hN f3
  have pg := hg s3 (upd H2 D (.dT [])) s3.heap.objs.size (cellsFrom (s3.heap.objs.size + 1) scope.names (cloFrom X.env.cells scope.names [])) fp
  have pt := ht s3 (upd H2 D (.dT [])) s3.heap.objs.size (cellsFrom (s3.heap.objs.size + 1) scope.names (cloFrom X.env.cells scope.names [])) fp
  have pb := hb D s3 (upd H2 D (.dT [])) s3.heap.objs.size (cellsFrom (s3.heap.objs.size + 1) scope.names (cloFrom X.env.cells scope.names [])) fp
  show codeAny _ _ (.compStart (.DictComp kx vx [⟨tg, iter, ifs, 0⟩] scope pos) 0 (.ref it) (.ref D) (compEnvC scope (cellsFrom (s3.heap.objs.size + 1) scope.names (cloFrom X.env.cells scope.names [])) s3.heap.objs.size X.env)) (compPost (model X.prog X.w) X.A X.xe use Qf (.ref D) s3.heap.objs.size) { s3 with heap := pushCells (s3.heap.push { cls := .type "dict", data := .dict #[] }) scope.names }
  have nfp : ∀ b ∈ fp, (upd H2 D (.dT [])) b = none := fun b hb => (f3 b hb).1.1
  generalize hce : compEnvC scope (cellsFrom (s3.heap.objs.size + 1) scope.names (cloFrom X.env.cells scope.names [])) s3.heap.objs.size X.env = ce at I4 pg pt pb ⊢
  have cL : ce.locals = s3.heap.objs.size := by subst hce; rfl
  generalize hH3 : upd H2 D (.dT []) = H3 at I3 I4 pg pt pb q nfp f3
  generalize hs4 : ({ s3 with heap := pushCells (s3.heap.push { cls := .type "dict", data := .dict #[] }) scope.names } : Shared) = s4 at I4 ⊢
  have st4 : tn 0 s4.heap := T.keep _ _ _ st3 fun b _ o e => by rw [← hs4]; exact pushCells_keeps _ _ _ _ (Heap.get?_push_of_some _ e)
  have stat : ∀ b ∈ fp, FpOk (X.blk s3 H3 scope ce fp) [] H3 b := fun b hb =>
    ⟨nfp b hb, (I4.ok.exf b hb).1, I4.ok.exfs b hb, .inl hb, fun x c e => (I4.ok.exf b hb).2 x c e, fun p hp => absurd (show p ∈ ([] : List (Addr × Obj)) ++ [] from hp) (by simp)⟩
  have loop : codeAny (model X.prog X.w) X.A (.compLoop (.DictComp kx vx [⟨tg, iter, ifs, 0⟩] scope pos) 0 (.ref it) (.ref D) ce) (compPost (model X.prog X.w) X.A X.xe use Qf (.ref D) s3.heap.objs.size) s4 := by
    refine loop_ok (X := X.blk s3 H3 scope ce fp) (pins := []) hc (heq ce D) (hun ce D) pg pt pb hv rfl T I4 st4 stat q fun s6 H5 I6 qq => ?_
    have I7 : Inv X pins σ H5 s6 := I3.call' (ch := fp) I6.os I6.base I6.hok I6.bare fun b hb => ⟨(f3 b hb).1.2.2.2.1, (f3 b hb).1.2.1, (f3 b hb).1.2.2.2.2.1, (f3 b hb).1.2.2.2.2.2⟩
    have nC : H5 s3.heap.objs.size = none := by
      have z : H5 ce.locals = none := I6.free
      rw [cL] at z
      exact z
    obtain ⟨m, hn, _⟩ := I6.loc
    have hn : s6.heap.Ns ce.locals m := hn
    rw [cL] at hn
    exact hRR D s3.heap.objs.size s6 m H5 I7 qq hn (I3.fpOk (Nat.le_refl _) nC)
  exact codeAny_compStart_dict loop (T.self X.A 0 _ _ _ st4 loop)
end
section
variable {X : Cx} {kx vx : Expr} {tk tv : TE}
theorem body_put (hu : X.A.units < cLine) (hxe : X.xe = fun _ _ => False) (hk : PE X kx tk) (hv : PE X vx tv) (D : Addr) : BodyOk X (putRun kx vx D X.env) (bPut tk tv D) [] := by
  intro pins s σ H Nx c Qc I h hcc
  have pk := hk.run
  have pv := hv.run
  rw [hxe] at pk pv
  unfold putRun
  refine wpAny_bind (wpAny_bind (thnF (pk pins s σ H _ I h) fun u s1 ⟨y, H1, I1, r1, q1⟩ => ?_))
  refine wpAny_bind (wpAny_holding (thnF (pv pins s1 σ H1 _ I1 q1) fun u2 s2 ⟨z, H2, I2, r2, kvs, k, b, ey, hb, hD, room, q⟩ => ?_))
  subst ey
  obtain rfl : u = Value.ref b := r1
  refine wpAny_bind (wpAny_standAt (wpAny_holding ?_))
  exact d_dictSetT hu I2 hD hb room r2 fun s' I' => hcc s' _ I' q
/-- {kx: vx for tg in iter if ..}: the keys are tuples -/
theorem pe_dcT {tg iter : Expr} {ifs : List Expr} {scope : Scope} {own : List (Str × Nat)} {pos : Pos} {wi : TI} {g : TG} {tt : TT} (hu : X.A.units < cLine) (hc : X.calm = true) (hN : X.N.Nodup) (hi : PI X tg iter wi) (ok : BlkOk X.N X.env.scope scope own)
    (hg : ∀ (s : Shared) (H : Hp) (C : Addr) (cl : List (Str × Addr)) (fp : List Addr), PG (X.blk s H scope (compEnvC scope cl C X.env) fp) tg g) (ht : ∀ (s : Shared) (H : Hp) (C : Addr) (cl : List (Str × Addr)) (fp : List Addr), PTs (X.blk s H scope (compEnvC scope cl C X.env) fp) ifs tt)
    (hk : ∀ (s : Shared) (H : Hp) (C : Addr) (cl : List (Str × Addr)) (fp : List Addr), PE (X.blk s H scope (compEnvC scope cl C X.env) fp) kx tk) (hv : ∀ (s : Shared) (H : Hp) (C : Addr) (cl : List (Str × Addr)) (fp : List Addr), PE (X.blk s H scope (compEnvC scope cl C X.env) fp) vx tv) (hs : ∀ x, foldedSetIterable iter X.env x = pure x := by intro _; rfl) :
    PE X (.DictComp kx vx [⟨tg, iter, ifs, 0⟩] scope pos) (tDcN wi g tt (own.map (·.2)) (bPut tk tv)) := by
  refine ⟨fun pins s σ H Q I h => ?_⟩
  rw [arm_eval_DictComp]
  refine dcT_core (BODY := fun D env => putRun kx vx D env) (vb := []) hc hN I hi ok (fun i z => nomatch z) (fun env D it => by rfl) (fun env D it => by rfl) hg ht (fun D s H C cl fp => body_put (X := X.blk s H scope (compEnvC scope cl C X.env) fp) hu rfl (hk s H C cl fp) (hv s H C cl fp) D) hs h fun D C s' m H' I' q hn f => ⟨m, hn, fun h'' sb => ?_⟩
  obtain ⟨f0, f1, f2, f3, f4, f5⟩ := f
  exact ⟨.ref D, H', I'.turned (t' := s'.toks) (fun b o hb e => (sb.2 b hb).trans e) f0 f1 f3 f4 f5, rfl, q⟩
end
end SH
set_option Elab.async false
set_option linter.all false
set_option maxRecDepth 100000
set_option maxHeartbeats 4000000
/-! dicts whose keys are tuples: compared, sorted, popped, told by repr -/
namespace SH
open PySem PySem.Spec PyProof.Rows L2
section
variable {κ : Type} [DecidableEq κ]
abbrev CE (κ : Type) := List (κ × PyData)
def lookE (C : CE κ) (k : κ) : Option PyData := (C.find? fun c => decide (c.1 = k)).map (·.2)
def hitsE (E : CE κ) : CE κ → Bool
  | [] => true
  | c :: r => match lookE E c.1 with
    | none => false
    | some l => PyData.eqv c.2 l && hitsE E r
def sameE (C E : CE κ) : Bool := decide (C.length = E.length) && hitsE E C
def RowE (K : PySem.W.Frag) (H : Hp) : List (κ × V) → CE κ → Prop := Paired fun p c => p.1 = c.1 ∧ Dp K H p.2 c.2 ∧ SeqAt.shaped c.2 = true
theorem RowE.look {K : PySem.W.Frag} {H : Hp} {ls : List (κ × V)} {E : CE κ} (h : RowE K H ls E) (k : κ) : (valV ls k = none ∧ lookE E k = none) ∨ ∃ v d, valV ls k = some v ∧ lookE E k = some d ∧ Dp K H v d ∧ SeqAt.shaped d = true := by
  unfold RowE at h
  induction h with
  | nil => exact .inl ⟨rfl, rfl⟩
  | @cons p c ps cs hh t ih =>
    obtain ⟨h1, h2, h3⟩ := hh
    by_cases e : p.1 = k
    · refine .inr ⟨p.2, c.2, valV_pos e, ?_, h2, h3⟩
      unfold lookE
      rw [List.find?_cons_of_pos (by simp [← h1, e])]
      rfl
    · rw [valV_neg e]
      unfold lookE
      rw [List.find?_cons_of_neg (by simp [← h1, e])]
      exact ih
theorem RowE.same {K : PySem.W.Frag} {H H' : Hp} (e : Same H H') {ls : List (κ × V)} {C : CE κ} (h : RowE K H ls C) : RowE K H' ls C := by
  unfold RowE at h ⊢
  induction h with
  | nil => exact .nil
  | cons hh _ ih => exact .cons ⟨hh.1, dp_same e hh.2.1, hh.2.2⟩ ih
theorem lookE_mem {C : CE κ} (nd : (C.map (·.1)).Nodup) : ∀ c ∈ C, lookE C c.1 = some c.2 := by
  induction C with
  | nil => intro c h; cases h
  | cons x r ih =>
    rw [List.map_cons, List.nodup_cons] at nd
    intro c hc
    unfold lookE
    rcases List.mem_cons.mp hc with rfl | hc
    · rw [List.find?_cons_of_pos (by simp)]; rfl
    · rw [List.find?_cons_of_neg (by simpa using fun e => nd.1 (by rw [e]; exact List.mem_map.mpr ⟨c, hc, rfl⟩))]
      exact ih nd.2 c hc
theorem hitsE_self {E : CE κ} (nd : (E.map (·.1)).Nodup) (rf : ∀ c ∈ E, PyData.eqv c.2 c.2 = true) : ∀ C : CE κ, (∀ c ∈ C, c ∈ E) → hitsE E C = true
  | [], _ => rfl
  | c :: r, h => by
    unfold hitsE
    rw [lookE_mem nd c (h c (List.mem_cons_self ..))]
    show (PyData.eqv c.2 c.2 && hitsE E r) = true
    rw [rf c (h c (List.mem_cons_self ..)), hitsE_self nd rf r fun x hx => h x (List.mem_cons_of_mem _ hx)]
    rfl
theorem sameE_self {E : CE κ} (nd : (E.map (·.1)).Nodup) (rf : ∀ c ∈ E, PyData.eqv c.2 c.2 = true) : sameE E E = true := by
  unfold sameE
  rw [hitsE_self nd rf E fun _ h => h]
  simp
end
/-! ### compared -/
section
variable {P : Program} {w : World} {κ : Type} [DecidableEq κ] {knd : HeapKind P w κ} {A : Around} {E : Value → Shared → Prop} {s : Shared}
theorem pairsH_same {nm : String} {a b : Addr} {xa xb : List (κ × Addr × Value)} {r : Bool} {Q : Bool → Shared → Prop} (ha : (a == sysModules) = false) (hb : (b == sysModules) = false) (hroom : knd.room A)
    (da : s.heap.DictOfH knd a xa) (db : s.heap.DictOfH knd b xb) (hits : xa.length = xb.length → PySem.W.KeqHits A s (kvsOf xb) (kvsOf xa) r) (h : Q (xa.length == xb.length && r) s) :
    wpAny (model P w) A (Builtin.Dict.samePairs nm a b) Q E s := by
  obtain ⟨oa, ea, pa, hoa, _, hda, hea, hia, hna⟩ := da
  obtain ⟨ob, eb, pb, hob, _, hdb, heb, hib, hnb⟩ := db
  have la : ea.size = xa.length := size_of_entries hea
  have lb : eb.size = xb.length := size_of_entries heb
  have lk : (kvsOf xa).length = ea.size := by rw [la]; exact List.length_map ..
  rw [← la, ← lb] at h
  unfold Builtin.Dict.samePairs Builtin.Dict.showsAll
  rw [if_neg (show ¬ (a == sysModules) = true by rw [ha]; exact Bool.false_ne_true), if_neg (show ¬ (b == sysModules) = true by rw [hb]; exact Bool.false_ne_true)]
  refine wpAny_bind (wpAny_pure (wpAny_bind (wpAny_pure (wpAny_bind (wpAny_dictEntries hoa hda ?_)))))
  dsimp only
  refine wpAny_bind (wpAny_dictEntries hob hdb ?_)
  by_cases hz : ea.size = eb.size
  case neg =>
    rw [if_pos (by simpa using hz)]
    rw [show (ea.size == eb.size) = false by simpa using hz, Bool.false_and] at h
    exact wpAny_bind (wpAny_rule (wpAny_pure h))
  have hq : Q r s := by simpa [hz] using h
  have all := hits (by rw [← la, ← lb]; exact hz)
  rw [if_neg (by rw [hz]; simp)]
  refine wpAny_bind (wpAny_dictEpoch hoa hda (wpAny_bind ?_))
  rw [Std.Legacy.Range.forIn_eq_forIn_range']
  simp only [Std.Legacy.Range.size, Nat.sub_zero, Nat.add_sub_cancel, Nat.div_one]
  refine wpAny_forIn_list _ (fun rest q t => t = s ∧ q = (none, ()) ∧ ∃ i, rest = List.range' i (ea.size - i) ∧ i ≤ ea.size ∧ PySem.W.KeqHits A s (kvsOf xb) ((kvsOf xa).drop i) r) _ ?_ ?_ _ _ ⟨rfl, rfl, 0, by simp, Nat.zero_le _, all⟩
  · rintro x rest q t ⟨rfl, rfl, i, hr, hi, pre⟩
    have lt : i < ea.size := Nat.lt_of_not_le fun z => by
      rw [Nat.sub_eq_zero_of_le z] at hr
      simp at hr
    have cut : ea.size - i = (ea.size - (i + 1)) + 1 := by omega
    rw [cut, List.range'_succ] at hr
    injection hr with e1 e2
    subst e1
    have lx : x < xa.length := la ▸ lt
    have ex := entry_at hea x
    rw [Array.getElem?_eq_getElem lt, List.getElem?_eq_getElem lx, Option.map_some] at ex
    have ey : ea[x] = entryOfKey knd xa[x] := Option.some.inj ex
    have hd : (kvsOf xa).drop x = (xa[x].1, xa[x].2.2) :: (kvsOf xa).drop (x + 1) := by
      rw [List.drop_eq_getElem_cons (by rw [lk]; exact lt)]
      simp [kvsOf]
    have kx := hia _ (List.getElem_mem lx)
    rw [hd] at pre
    refine wpAny_bind (wpAny_dictEntries hoa hda ?_)
    rw [Array.getElem?_eq_getElem lt]
    show wpAny _ _ (holding [ea[x].key, ea[x].val] _ >>= _) _ _ _
    rw [ey]
    refine wpAny_bind (wpAny_holding (wpAny_bind (wpAny_dictFind_heap hroom kx hob hdb heb hib hnb (fun miss => ?_) fun j p there => ?_)))
    · have nv : valueAt (kvsOf xb) xa[x].1 = none := by rw [valueAt_kvsOf, atKey_none_of_get miss]; rfl
      rcases pre.inv with ⟨_, er⟩ | ⟨y, _, _, hy, _⟩
      · rw [er] at hq
        refine wpAny_pure ?_
        show wpAny _ _ (if (!false) = true then _ else _) _ _ _
        rw [if_pos (by decide)]
        exact wpAny_pure (wpAny_pure hq)
      · rw [nv] at hy; cases hy
    · have sv : valueAt (kvsOf xb) xa[x].1 = some p.2 := by rw [valueAt_kvsOf, atKey_of_get hnb there]; rfl
      have ej : eb[j]? = Option.some (entryOfKey knd (xa[x].1, p)) := by rw [entry_at heb j, there]; rfl
      refine wpAny_bind (wpAny_dictEntries hob hdb ?_)
      rw [ej]
      rcases pre.inv with ⟨hn, _⟩ | ⟨y, e, b', hy, he, hrr, er⟩
      · rw [sv] at hn; cases hn
      obtain rfl : p.2 = y := Option.some.inj (sv.symm.trans hy)
      refine wpAny_holding (he P w _ _ ?_)
      cases e with
      | false =>
        rw [er, Bool.false_and] at hq
        show wpAny _ _ (if (!false) = true then _ else _) _ _ _
        rw [if_pos (by decide)]
        exact wpAny_pure (wpAny_pure hq)
      | true =>
        rw [Bool.true_and] at er
        rw [← er] at hrr
        show wpAny _ _ (if (!true) = true then _ else _) _ _ _
        rw [if_neg (by decide)]
        refine wpAny_bind (wpAny_dictEpoch hoa hda ?_)
        rw [if_neg (by simp)]
        exact wpAny_pure ⟨rfl, rfl, x + 1, e2, lt, hrr⟩
  · rintro q t ⟨rfl, rfl, i, hr, hi, pre⟩
    have ei : i = ea.size := Nat.le_antisymm hi (Nat.le_of_not_lt fun z => by
      have cut : ea.size - i = (ea.size - (i + 1)) + 1 := by omega
      rw [cut, List.range'_succ] at hr
      cases hr)
    refine wpAny_pure ?_
    rw [ei, ← lk, List.drop_length] at pre
    cases pre
    exact hq
theorem eqH_ok {a b : Addr} {xa xb : List (κ × Addr × Value)} {r : Bool} {Q : Value → Shared → Prop} (ha : (a == sysModules) = false) (hb : (b == sysModules) = false) (hroom : knd.room A.in1)
    (da : s.heap.DictOfH knd a xa) (db : s.heap.DictOfH knd b xb) (hu : A.units < cLine) (hits : xa.length = xb.length → PySem.W.KeqHits A.in1 s (kvsOf xb) (kvsOf xa) r) (h : Q (.bool (xa.length == xb.length && r)) s) :
    wpAny (model P w) A (compareOp .Eq (.ref a) (.ref b)) Q E s := by
  refine wpAny_richCompare_same_room (op := .Eq) da.typeIs db.typeIs PySem.F.slot_dict_eq (wpAny_call_entry PySem.F.slot_dict_eq da.typeIs PySem.F.entry_dict_eq ?_ (PySem.F.args_dict_eq_2 _ _)) hu
  refine wpAny_bind (m := Builtin.Dict.dictSlotArgs "__eq__" ⟨[.ref a, .ref b], []⟩) ?_
  unfold Builtin.Dict.dictSlotArgs
  refine wpAny_bind (wpAny_notOrdered_dict da.typeIs (wpAny_pure (wpAny_bind (wpAny_isInstance (T := "dict") db.typeIs PySem.F.sub_dict_dict ?_))))
  simp only [Bool.not_true, Bool.false_eq_true, if_false]
  refine wpAny_bind (wpAny_pure (wpAny_bind (wpAny_pure (wpAny_bind (pairsH_same ha hb hroom da db hits ?_)))))
  exact wpAny_pure ⟨_, rfl, fun z => (by cases z), by simpa using h⟩
theorem neH_ok {a b : Addr} {xa xb : List (κ × Addr × Value)} {r : Bool} {Q : Value → Shared → Prop} (ha : (a == sysModules) = false) (hb : (b == sysModules) = false) (hroom : knd.room A.in1)
    (da : s.heap.DictOfH knd a xa) (db : s.heap.DictOfH knd b xb) (hu : A.units < cLine) (hits : xa.length = xb.length → PySem.W.KeqHits A.in1 s (kvsOf xb) (kvsOf xa) r) (h : Q (.bool (!(xa.length == xb.length && r))) s) :
    wpAny (model P w) A (compareOp .NotEq (.ref a) (.ref b)) Q E s := by
  refine wpAny_richCompare_same_room (op := .NotEq) da.typeIs db.typeIs PySem.F.slot_dict_ne (wpAny_call_entry PySem.F.slot_dict_ne da.typeIs PySem.F.entry_dict_ne ?_ (PySem.F.args_dict_ne_2 _ _)) hu
  refine wpAny_bind (m := Builtin.Dict.dictSlotArgs "__ne__" ⟨[.ref a, .ref b], []⟩) ?_
  unfold Builtin.Dict.dictSlotArgs
  refine wpAny_bind (wpAny_notOrdered_dict da.typeIs (wpAny_pure (wpAny_bind (wpAny_isInstance (T := "dict") db.typeIs PySem.F.sub_dict_dict ?_))))
  simp only [Bool.not_true, Bool.false_eq_true, if_false]
  refine wpAny_bind (wpAny_pure (wpAny_bind (wpAny_pure (wpAny_bind (pairsH_same ha hb hroom da db hits ?_)))))
  exact wpAny_pure ⟨_, rfl, fun z => (by cases z), by simpa using h⟩
end
abbrev CT := CE (List Key)
theorem hits_tt {X : Cx} {pins : List (Addr × Obj)} {σ : L2.St} {H : Hp} {s : Shared} (I : Inv X pins σ H s) {A : Around} (hu : A.units + 64 < cLine) {ls : List (List Key × V)} {vb : List (List Key × Addr × Value)} (rb : KT H ls vb) {E : CT} (hE : RowE X.K H ls E) :
    ∀ {C : CT} {ks : List (List Key × V)} {va : List (List Key × Addr × Value)}, KT H ks va → RowE X.K H ks C → PySem.W.KeqHits A s (kvsOf vb) (kvsOf va) (hitsE E C)
  | [], _, _, ra, h => by
    cases h
    cases ra
    exact .nil
  | c :: r, _, _, ra, h => by
    cases h with
    | @cons p _ ps _ hh t =>
      cases ra with
      | @cons _ q _ qs rr rt =>
        obtain ⟨h1, h2, h3⟩ := hh
        obtain ⟨r1, _, r2⟩ := rr
        have ih := hits_tt I hu rb hE (C := r) rt t
        obtain ⟨key, ad, v⟩ := q
        obtain rfl : key = c.1 := by rw [← h1]; exact r1.symm
        have rv := rb.val c.1
        rw [← valueAt_kvsOf] at rv
        show PySem.W.KeqHits A s (kvsOf vb) ((c.1, v) :: kvsOf qs) _
        unfold hitsE
        rcases hE.look c.1 with ⟨n1, n2⟩ | ⟨y, d, n1, n2, n3, n4⟩
        · rw [n2]
          rw [n1] at rv
          exact .miss rv.none_of
        · rw [n2]
          rw [n1] at rv
          obtain ⟨u, hu2, ru⟩ := rv.some_of
          obtain ⟨as, ra1⟩ := Dp.reads I c.2 p.2 v h2 r2
          obtain ⟨bs, rb1⟩ := Dp.reads I d y u n3 ru
          exact .hit hu2 (SeqAt.eqAt_reads c.2 d A s v u as bs ra1 rb1 (SeqAt.canLay_of_shaped h3) (SeqAt.canLay_of_shaped n4) (SeqAt.room_of_shaped h3 hu)) ih
def rEqTT (K : PySem.W.Frag) : R2 := fun x y H Q => ∃ a b ks ls C E, x = .ref a ∧ y = .ref b ∧ H a = some (.dT ks) ∧ H b = some (.dT ls) ∧ RowE K H ks C ∧ RowE K H ls E ∧ Q (.bl (sameE C E)) H
def rNeTT (K : PySem.W.Frag) : R2 := fun x y H Q => ∃ a b ks ls C E, x = .ref a ∧ y = .ref b ∧ H a = some (.dT ks) ∧ H b = some (.dT ls) ∧ RowE K H ks C ∧ RowE K H ls E ∧ Q (.bl (!sameE C E)) H
section
variable {X : Cx}
theorem op_eqTT0 (hu : X.A.units + 66 < cLine) : OpR X (compareOp .Eq) (rEqTT X.K) := by
  intro pins s σ H x y v u Q I rx ry h
  obtain ⟨a, b, ks, ls, C, E, rfl, rfl, ea, eb, h1, h2, q⟩ := h
  obtain rfl : v = Value.ref a := rx
  obtain rfl : u = Value.ref b := ry
  obtain ⟨_, ya, va, ra, da⟩ := dt_of I.hok ea
  obtain ⟨_, yb, vb, rb, db⟩ := dt_of I.hok eb
  have l1 : va.length = C.length := by rw [← Paired.length ra]; exact Paired.length h1
  have l2 : vb.length = E.length := by rw [← Paired.length rb]; exact Paired.length h2
  exact eqH_ok (knd := tupleKind (mixKind X.prog X.w)) (r := hitsE E C) ya yb (tupleKind_room_in1 (by omega)) da db (by omega) (fun _ => hits_tt I (A := X.A.in1) (by show X.A.units + 1 + 64 < cLine; omega) rb h2 ra h1) (fin_bl I q (by unfold sameE; rw [l1, l2]; congr 1))
theorem op_neTT0 (hu : X.A.units + 66 < cLine) : OpR X (compareOp .NotEq) (rNeTT X.K) := by
  intro pins s σ H x y v u Q I rx ry h
  obtain ⟨a, b, ks, ls, C, E, rfl, rfl, ea, eb, h1, h2, q⟩ := h
  obtain rfl : v = Value.ref a := rx
  obtain rfl : u = Value.ref b := ry
  obtain ⟨_, ya, va, ra, da⟩ := dt_of I.hok ea
  obtain ⟨_, yb, vb, rb, db⟩ := dt_of I.hok eb
  have l1 : va.length = C.length := by rw [← Paired.length ra]; exact Paired.length h1
  have l2 : vb.length = E.length := by rw [← Paired.length rb]; exact Paired.length h2
  exact neH_ok (knd := tupleKind (mixKind X.prog X.w)) (r := hitsE E C) ya yb (tupleKind_room_in1 (by omega)) da db (by omega) (fun _ => hits_tt I (A := X.A.in1) (by show X.A.units + 1 + 64 < cLine; omega) rb h2 ra h1) (fin_bl I q (by unfold sameE; rw [l1, l2]; congr 2))
end
theorem op_eqTTK {X : Cx} {K : PySem.W.Frag} {k : Nat} (hr : Room k X.A) (h : X.K = K := by rfl) : OpR X (compareOp .Eq) (rEqTT K) := h ▸ op_eqTT0 (by have := hr.un; omega)
theorem op_neTTK {X : Cx} {K : PySem.W.Frag} {k : Nat} (hr : Room k X.A) (h : X.K = K := by rfl) : OpR X (compareOp .NotEq) (rNeTT K) := h ▸ op_neTT0 (by have := hr.un; omega)
/-! ### d.pop(k), the key there -/
def rPop1T : V → List V → Hp → VK → Prop := fun x xs H Q => ∃ (a : Addr) (kvs : List (List Key × V)) (k : List Key) (b : Addr) (v : V), x = .ref a ∧ xs = [.ref b] ∧ H a = some (.dT kvs) ∧ H b = some (.tup (k.map kV)) ∧ valV kvs k = some v ∧ Q v (upd H a (.dT (dropK kvs k)))
theorem mt_pop1T {X : Cx} (hu : X.A.units + 1 < cLine) : MtR X "dict.pop" rPop1T := by
  intro pins s σ H x xs v us Q I rx rxs h
  obtain ⟨a, kvs, k, b, y, rfl, rfl, ha, hb, ev, q⟩ := h
  cases rx
  obtain ⟨u1, rfl, r1⟩ := vals1 rxs
  cases r1
  obtain ⟨z, hd, xs', rel, dd⟩ := dt_of I.hok ha
  have hz : xs'.length ≤ sizeLine := by rw [← Paired.length rel]; exact z
  have rv := rel.val k
  rw [ev] at rv
  obtain ⟨u, hu2, ru⟩ := rv.some_of
  obtain ⟨p, hp, rfl⟩ := Option.map_eq_some_iff.mp hu2
  refine call_pop_heap (knd := tupleKind (mixKind X.prog X.w)) (more := []) (k := k) (.inl rfl) (PySem.F.args_dict_pop_2 _ _) (tupleKind_room_in1 hu) (key_of I.hok hb) hd dd hp (fun h' dd' hs => ?_) hz
  obtain ⟨o, es, ep, hq, h2, h3, h4, _, h5⟩ := dd'
  have rel2 : KT H (dropK kvs k) (withoutH xs' k) := DX.KT_drop k rel
  have I2 : Inv X pins σ (upd H a (.dT (dropK kvs k))) { s with heap := h', toks := s.toks + (tupleKind (mixKind X.prog X.w)).draws k } :=
    d_write I (by rw [ha]; exact True.intro) hs ⟨o, hq⟩ ⟨Nat.le_trans (dropK_le kvs k) z, hd, _, rel2.keeps (fun c ys ec => (by rw [upd_ne (ne_of ec ha (fun z => nomatch z))]; exact ec)), o, es, ep, hq, h2, h3, h4, h5⟩
  show EP X pins σ Q p.2 _
  exact ⟨y, _, I2, ru, q⟩
/-! ### sorted(d) -/
section
variable {X : Cx}
def tKey (k : List Key) : PyData := .tuple (k.map dKey)
/-- sorted(a dict whose keys are tuples): the keys' own objects, in order -/
def rSortT : List V → Hp → VK → Prop := fun xs H Q => ∃ (a : Addr) (kvs : List (List Key × V)), xs = [.ref a] ∧ Rd H a (.dT kvs) ∧ PySem.W.AllAlike (kvs.map fun p => tKey p.1) ∧ PySem.W.Sortable (kvs.map fun p => tKey p.1) ∧ (∀ p ∈ kvs, (tKey p.1).depth ≤ 60) ∧
  ∀ (p : Addr) (Z : List (Addr × List Key)), H p = none → Z.map (·.2) = (kvs.map (·.1)).mergeSort (PySem.W.dataLe false tKey) → (∀ z ∈ Z, H z.1 = some (.tup (z.2.map kV))) → Q (.ref p) (upd H p (.lst (Z.map fun z => V.ref z.1)))
theorem dp_key {K : PySem.W.Frag} {H : Hp} : ∀ k : Key, Dp K H (kV k) (dKey k)
  | .inl i => .int i
  | .inr z => .str z
theorem dp_keys {K : PySem.W.Frag} {H : Hp} : ∀ k : List Key, DpAll K H (k.map kV) (k.map dKey)
  | [] => .nil
  | x :: r => .cons (dp_key x) (dp_keys r)
theorem dp_tkey {K : PySem.W.Frag} {H : Hp} {b : Addr} {k : List Key} (h : H b = some (.tup (k.map kV))) : Dp K H (.ref b) (tKey k) := .tup (SqT.of h) (dp_keys k)
theorem reads_keys {h : Heap} : ∀ (k : List Key) (us : List Value) (as : List Addr), ReadsAll h us (k.map dKey) as → as = []
  | [], _, _, r => by
    cases r
    rfl
  | x :: r, _, _, q => by
    rw [List.map_cons] at q
    cases q with
    | cons q1 q2 =>
      rw [reads_keys r _ _ q2, List.append_nil]
      cases x with
      | inl i => cases q1; rfl
      | inr z => cases q1; rfl
theorem reads_tkey {h : Heap} {k : List Key} {u : Value} {as : List Addr} (r : Reads h u (tKey k) as) : as = [] := by
  cases r with
  | tuple _ _ _ q => exact reads_keys k _ _ q
theorem cr_sortT (hcalm : X.calm = true) (hu : X.A.units + 64 < cLine) : CallR X (.builtin "sorted") rSortT := by
  intro pins s σ H xs us Q I r q
  obtain ⟨a, kvs, ex, hd, hal, hso, hdp, q⟩ := q
  subst ex
  obtain ⟨u, eu, rx⟩ := vals1 r
  subst eu
  cases rx
  obtain ⟨z, lo, ys, rel, dd⟩ := dt_rd I.hok hd
  obtain ⟨o, es, ep, ho, hx, hdt, he, his, hn⟩ := dd
  have raw : s.heap.DictRaw a es ep := ⟨o, ho, hx, hdt⟩
  have hz : es.size = ys.length := size_of_entries he
  have hl : ys.length = kvs.length := (Paired.length rel).symm
  refine Calls.call_function_entry PyProof.Rows.kind_sorted PyProof.Rows.plain_sorted PyProof.Rows.entry_sorted (PyProof.Rows.args_sorted1 _) ?_
  unfold Builtin.«sorted»
  refine wpAny_bind (m := checkCount "sorted" 1 1 _) (wpAny_pure ?_)
  refine wpAny_bind (PySem.W.kdu_collect (A := X.A.in1) (PySem.KdlSrc.rawDict (es := es) (ep := ep) lo) (I.ok.hd hcalm) raw (by rw [hz, hl]; exact z) fun h' tk acc hk hacc => ?_)
  have hkey : acc.toList = ys.map fun y => Value.ref y.2.1 := by
    refine List.ext_getElem? fun j => ?_
    by_cases lt : j < ys.length
    · have la : j < acc.toList.length := by rw [Array.length_toList, hacc.1, hz]; exact lt
      rw [List.getElem?_eq_getElem la]
      obtain ⟨hi, ev⟩ := hacc.2 j acc.toList[j] (by rw [← Array.getElem?_toList]; exact List.getElem?_eq_getElem la)
      have e1 := entry_at he j
      rw [Array.getElem?_eq_getElem hi, List.getElem?_eq_getElem lt, Option.map_some] at e1
      rw [ev, Option.some.inj e1, List.getElem?_map, List.getElem?_eq_getElem lt]
      rfl
    · rw [List.getElem?_eq_none (by rw [Array.length_toList, hacc.1, hz]; omega), List.getElem?_eq_none (by rw [List.length_map]; omega)]
  have I1 : Inv X pins σ H { s with heap := h', toks := tk } := I.kept hk
  have hsl : acc.toList.length ≤ sizeLine := by rw [hkey, List.length_map, hl]; exact z
  refine wpAny_bind (wpAny_newList ?_ hsl)
  have hoL : (h'.push (seqObj "list" acc.toList.toArray 0)).get? h'.objs.size = some (seqObj "list" acc.toList.toArray 0) := Heap.get?_push_size _ rfl
  show wpAny _ _ _ _ _ { s with heap := h'.push (seqObj "list" acc.toList.toArray 0), toks := tk }
  generalize eZ : (ys.map fun y => (y.2.1, y.1)) = Z0
  have eZ1 : acc.toList = Z0.map fun y => Value.ref y.1 := by rw [hkey, ← eZ, List.map_map]; rfl
  have eZ2 : Z0.map (·.2) = kvs.map (·.1) := by
    rw [← eZ, List.map_map]
    clear eZ eZ1 hkey hsl hoL he hz hl hn his hd hal hso hdp q z
    induction rel with
    | nil => rfl
    | cons hh _ ih =>
      rw [List.map_cons, List.map_cons, ih]
      exact congrArg (· :: _) hh.1.symm
  have hZ : ∀ y ∈ Z0, H y.1 = some (.tup (y.2.map kV)) := by
    intro y hy
    rw [← eZ] at hy
    obtain ⟨x, hx1, rfl⟩ := List.mem_map.mp hy
    obtain ⟨j, hj⟩ := List.mem_iff_getElem?.mp hx1
    obtain ⟨p, _, hp1, hp2, _⟩ := DX.pget rel hj
    show H x.2.1 = some (.tup (x.1.map kV))
    rw [← hp1]
    exact hp2
  have lZ : Z0.length = kvs.length := by have := congrArg List.length eZ2; rwa [List.length_map, List.length_map] at this
  have e : PySem.W.EachIs (fun v (y : Addr × List Key) => v = Value.ref y.1) acc.toList Z0 := by
    rw [eZ1]
    clear eZ eZ1 eZ2 hZ lZ
    induction Z0 with
    | nil => exact .nil
    | cons y r ih => exact .cons rfl ih
  have er : PySem.W.EachIs (fun v (y : Addr × List Key) => ∃ as, Reads (h'.push (seqObj "list" acc.toList.toArray 0)) v (tKey y.2) as ∧ h'.objs.size ∉ as) acc.toList Z0 := (PySem.W.each_mem e).mono fun v y h => by
    obtain ⟨as, r⟩ := Dp.reads I1 (tKey y.2) (.ref y.1) v (dp_tkey (hZ y h.2)) h.1
    refine ⟨[], ?_, by simp⟩
    have e0 := reads_tkey r
    rw [e0] at r
    exact PyProof.Rows.Reads.keeps (fun b o g => Heap.get?_push_of_some _ g) r
  have eK : (Z0.map fun y => tKey y.2) = kvs.map fun p => tKey p.1 := by
    rw [show (Z0.map fun y => tKey y.2) = (Z0.map (·.2)).map tKey by rw [List.map_map]; rfl, eZ2, List.map_map]; rfl
  refine wpAny_bind (wpAny_holding (PySem.W.list_sort_data (enc := fun y : Addr × List Key => tKey y.2) (s := { s with heap := h'.push (seqObj "list" acc.toList.toArray 0), toks := tk }) hoL e er (by rw [eK]; exact hal) (by rw [eK]; exact hso) (by rw [lZ]; exact z) (fun y hy => ?_) (fun out2 ho2 eo => ?_)))
  · obtain ⟨p, hp, ep2⟩ := List.mem_map.mp (show tKey y.2 ∈ kvs.map fun p => tKey p.1 by rw [← eK]; exact List.mem_map.mpr ⟨y, hy, rfl⟩)
    have d1 := hdp p hp
    have e2 : X.A.in1.units = X.A.units + 1 := rfl
    show X.A.in1.units + 1 + (tKey y.2).depth < cLine
    rw [← ep2]
    omega
  · obtain ⟨c, hcc⟩ := sortedHeap_at (vs := acc.toList) (out := out2.toArray) hoL
    generalize eS : (Z0.mergeSort (PySem.W.dataLe false fun y : Addr × List Key => tKey y.2)) = S at eo
    have pm : S.Perm Z0 := by rw [← eS]; exact List.mergeSort_perm ..
    have vo : Vals (S.map fun y => V.ref y.1) out2 := by
      clear eS hcc ho2 pm
      induction eo with
      | nil => exact .nil
      | cons h1 _ ih => exact .cons h1 ih
    have eS2 : S.map (·.2) = (kvs.map (·.1)).mergeSort (PySem.W.dataLe false tKey) := by
      rw [← eS, ← eZ2]
      exact List.map_mergeSort (fun a _ b _ => rfl)
    refine wpAny_pure ⟨_, rfl, .ref h'.objs.size, upd H h'.objs.size (.lst (S.map fun y => V.ref y.1)), I1.laid (t' := tk) (fun b u e => ?_) (Nat.le_refl _)
      (show ObjOk X.prog X.w _ _ _ (.lst (S.map fun y => V.ref y.1)) from ⟨by rw [List.length_map, pm.length_eq, lZ]; exact z, out2, c, vo, hcc⟩), rfl, q _ S (I1.hok.fresh (Nat.le_refl _)) eS2 (fun y hy => hZ y (pm.mem_iff.mp hy))⟩
    have hb : b < h'.objs.size := Heap.lt_size e
    rw [PyProof.Rows.sortedHeap_old (Nat.ne_of_lt hb) (by rw [size_push']; exact Nat.lt_succ_of_lt hb)]
    exact Heap.get?_push_of_some _ e
end
end SH
set_option Elab.async false
set_option linter.all false
set_option maxRecDepth 100000
set_option maxHeartbeats 4000000
/-! dicts whose keys are tuples of pairs of numbers -/
namespace SH
open PySem PySem.Spec PyProof.Rows L2
abbrev NK := List (Int × Nat)
def nk (k : NK) : NestedKey := .tup (k.map fun q => .tup [.num q.1, .num (q.2 : Int)])
theorem nk_map_inj : ∀ {k l : NK}, (k.map fun q => NestedKey.tup [.num q.1, .num (q.2 : Int)]) = (l.map fun q => NestedKey.tup [.num q.1, .num (q.2 : Int)]) → k = l
  | [], [], _ => rfl
  | [], q :: r, h => by cases h
  | q :: r, [], h => by cases h
  | q :: r, p :: s, h => by
    rw [List.map_cons, List.map_cons] at h
    injection h with h1 h2
    rw [nk_map_inj h2]
    injection h1 with h3
    injection h3 with h4 h5
    injection h5 with h6 _
    injection h4 with h4
    injection h6 with h6
    obtain ⟨a, b⟩ := q
    obtain ⟨c, d⟩ := p
    have h4 : a = c := h4
    have h6 : (b : Int) = (d : Int) := h6
    have h6 : b = d := by omega
    rw [h4, h6]
theorem nk_inj {k l : NK} (h : nk k = nk l) : k = l := by
  unfold nk at h
  injection h with h
  exact nk_map_inj h
theorem nk_deep : ∀ k : NK, NestedKey.depthAll (k.map fun q => NestedKey.tup [.num q.1, .num (q.2 : Int)]) ≤ 3
  | [] => by
    show NestedKey.depthAll [] ≤ 3
    unfold NestedKey.depthAll
    omega
  | q :: r => by
    have ih := nk_deep r
    rw [List.map_cons]
    have e : NestedKey.depth (NestedKey.tup [.num q.1, .num (q.2 : Int)]) ≤ 3 := by
      simp only [NestedKey.depth, NestedKey.depthAll]
      omega
    rw [NestedKey.depthAll]
    omega
theorem nk_depth (k : NK) : (nk k).depth ≤ 8 := by
  have := nk_deep k
  unfold nk
  rw [NestedKey.depth]
  omega
/-- the tuple at a holds the pairs k -/
def NkAt (H : Hp) (k : NK) (a : Addr) : Prop := ∃ R : List (Addr × Int × Nat), H a = some (.tup (R.map fun q => V.ref q.1)) ∧ (∀ q ∈ R, H q.1 = some (.tup [.int q.2.1, .int (q.2.2 : Int)])) ∧ R.map (·.2) = k
theorem NkAt.same {H H' : Hp} {k : NK} {a : Addr} (h : NkAt H k a) (s : Same H H') : NkAt H' k a := by
  obtain ⟨R, h1, h2, h3⟩ := h
  exact ⟨R, s _ _ h1, fun q m => s _ _ (h2 q m), h3⟩
theorem NkAt.but {H H' : Hp} {k : NK} {a D : Addr} {o : HO} (h : NkAt H k a) (hD : H D = some o) (n : ∀ xs, o ≠ .tup xs) (s : ∀ b u, b ≠ D → H b = some u → H' b = some u) : NkAt H' k a := by
  obtain ⟨R, h1, h2, h3⟩ := h
  have ne : ∀ {b xs}, H b = some (.tup xs) → b ≠ D := fun {b xs} e z => by rw [z, hD] at e; exact n xs (Option.some.inj e)
  exact ⟨R, s _ _ (ne h1) h1, fun q m => s _ _ (ne (h2 q m)) (h2 q m), h3⟩
theorem nested_pair {P : Program} {w : World} {H : Hp} {h : Heap} (ok : HOk P w H h) {b : Addr} {x : Int} {y : Int} (e : H b = some (.tup [.int x, .int y])) : NestedIs h (.tup [.num x, .num y]) (.ref b) := by
  obtain ⟨_, its, rv, o, h1, h2, n, h3⟩ := (show ObjOk P w H h b (.tup [.int x, .int y]) from ok b _ e)
  cases rv with
  | cons r1 r2 =>
    cases r2 with
    | cons r3 r4 =>
      cases r4
      obtain ⟨t, rfl⟩ := r1
      obtain ⟨u, rfl⟩ := r3
      exact .tup h1 h2 h3 (.cons (.int _ _) (.cons (.int _ _) .nil))
theorem nested_pairs {P : Program} {w : World} {H : Hp} {h : Heap} (ok : HOk P w H h) : ∀ {R : List (Addr × Int × Nat)} {its : List Value}, (∀ q ∈ R, H q.1 = some (.tup [.int q.2.1, .int (q.2.2 : Int)])) → Vals (R.map fun q => V.ref q.1) its →
    NestedAll h ((R.map (·.2)).map fun q => NestedKey.tup [.num q.1, .num (q.2 : Int)]) its
  | [], _, _, .nil => .nil
  | q :: r, _, hq, .cons r1 r2 => by
    cases r1
    exact .cons (nested_pair ok (hq q (List.mem_cons_self ..))) (nested_pairs ok (fun x m => hq x (List.mem_cons_of_mem _ m)) r2)
theorem nested_of {P : Program} {w : World} {H : Hp} {h : Heap} (ok : HOk P w H h) {k : NK} {a : Addr} (e : NkAt H k a) : (nestedKind P w).is h (nk k) a := by
  obtain ⟨R, h1, h2, rfl⟩ := e
  obtain ⟨_, its, rv, o, g1, g2, n, g3⟩ := (show ObjOk P w H h a (.tup (R.map fun q => V.ref q.1)) from ok a _ h1)
  exact ⟨.tup g1 g2 g3 (by simpa using nested_pairs ok h2 rv), nk_depth _⟩
abbrev NE := List (NK × Addr × V)
abbrev KN (E : NE) (xs : List (NestedKey × Addr × Value)) : Prop := Paired (fun (p : NK × Addr × V) (q : NestedKey × Addr × Value) => q.1 = nk p.1 ∧ q.2.1 = p.2.1 ∧ RelV p.2.2 q.2.2) E xs
/-- what is true of the dict's own object -/
def DnAt (P : Program) (w : World) (D : Addr) (E : NE) (h : Heap) : Prop := (D == sysModules) = false ∧ E.length ≤ sizeLine ∧ (E.map (·.1)).Nodup ∧ ∃ xs, KN E xs ∧ ∃ o es ep, h.get? D = some o ∧ o.ExactDict ∧ o.data = .dict es ep ∧ es.toList = xs.map (entryOfKey (nestedKind P w))
def dN (P : Program) (w : World) (D : Addr) (E : NE) : HO := .ext (DnAt P w D E)
/-- .. while it is walked: the very object -/
def dF (D : Addr) (o : Obj) : HO := .ext fun h => h.get? D = some o
theorem dn_ok {P : Program} {w : World} {H : Hp} {h : Heap} {D : Addr} {E : NE} (x : DnAt P w D E h) : ObjOk P w H h D (dN P w D E) := by
  refine ⟨x, ?_, fun h1 h2 y k => ?_⟩
  · obtain ⟨_, _, _, _, _, o, _, _, e, _⟩ := x
    exact ⟨o, e⟩
  · obtain ⟨a, b, c, xs, r, o, es, ep, e, z⟩ := y
    exact ⟨a, b, c, xs, r, o, es, ep, k _ e, z⟩
theorem df_ok {P : Program} {w : World} {H : Hp} {h : Heap} {D : Addr} {o : Obj} (x : h.get? D = some o) : ObjOk P w H h D (dF D o) := ⟨x, ⟨o, x⟩, fun h1 h2 y k => k _ y⟩
theorem dn_ne {P : Program} {w : World} {D : Addr} {E : NE} : ∀ xs, dN P w D E ≠ .tup xs := fun xs z => by
  unfold dN at z
  cases z
theorem kn_keys {E : NE} {xs : List (NestedKey × Addr × Value)} (r : KN E xs) : xs.map (·.1) = E.map fun e => nk e.1 := by
  unfold KN at r
  induction r with
  | nil => rfl
  | cons h _ ih => rw [List.map_cons, List.map_cons, ih, h.1]
theorem kn_nodup {E : NE} {xs : List (NestedKey × Addr × Value)} (r : KN E xs) (n : (E.map (·.1)).Nodup) : (xs.map (·.1)).Nodup := by
  rw [kn_keys r]
  rw [List.Nodup, List.pairwise_map] at n ⊢
  exact n.imp fun h e => h (nk_inj e)
theorem kn_dict {P : Program} {w : World} {H : Hp} {h : Heap} (ok : HOk P w H h) {D : Addr} {E : NE} (e : H D = some (dN P w D E)) (hk : ∀ x ∈ E, NkAt H x.1 x.2.1) :
    (D == sysModules) = false ∧ E.length ≤ sizeLine ∧ (E.map (·.1)).Nodup ∧ ∃ xs, KN E xs ∧ h.DictOfH (nestedKind P w) D xs := by
  obtain ⟨a, b, c, xs, r, o, es, ep, h1, h2, h3, h4⟩ := (show ObjOk P w H h D (dN P w D E) from ok D _ e).1
  refine ⟨a, b, c, xs, r, o, es, ep, h1, h2, h3, h4, ?_, kn_nodup r c⟩
  have all : ∀ {l : NE} {m : List (NestedKey × Addr × Value)}, KN l m → (∀ x ∈ l, NkAt H x.1 x.2.1) → ∀ x ∈ m, (nestedKind P w).is h x.1 x.2.1 := by
    intro l m q
    unfold KN at q
    induction q with
    | nil => intro _ x hx; cases hx
    | cons y _ ih =>
      intro g x hx
      rcases List.mem_cons.mp hx with rfl | hx
      · rw [y.1, y.2.1]
        exact nested_of ok (g _ (List.mem_cons_self ..))
      · exact ih (fun z m => g z (List.mem_cons_of_mem _ m)) x hx
  exact all r hk
def lookN (E : NE) (k : NK) : Option V := (E.find? fun e => decide (e.1 = k)).map (·.2.2)
theorem kn_look {E : NE} {xs : List (NestedKey × Addr × Value)} (r : KN E xs) (k : NK) : (lookN E k = none ∧ atKey xs (nk k) = none) ∨ ∃ v p, lookN E k = some v ∧ atKey xs (nk k) = some p ∧ RelV v p.2 := by
  unfold KN at r
  induction r with
  | nil => exact .inl ⟨rfl, rfl⟩
  | @cons p q ps qs h t ih =>
    obtain ⟨h1, h2, h3⟩ := h
    unfold lookN atKey
    by_cases e : p.1 = k
    · refine .inr ⟨p.2.2, q.2, ?_, ?_, h3⟩
      · rw [List.find?_cons_of_pos (by simp [e])]; rfl
      · rw [List.find?_cons_of_pos (by simp [h1, e])]; rfl
    · rw [List.find?_cons_of_neg (by simpa using e), List.find?_cons_of_neg (by
        have : ¬ q.1 = nk k := fun z => e (nk_inj (h1.symm.trans z))
        simpa using this)]
      exact ih
theorem lookN_none {E : NE} {k : NK} (h : lookN E k = none) : k ∉ E.map (·.1) := fun m => by
  unfold lookN at h
  rw [Option.map_eq_none_iff, List.find?_eq_none] at h
  obtain ⟨e, he, z⟩ := List.mem_map.mp m
  exact h e he (by simpa using z)
theorem lookN_mem {E : NE} (n : (E.map (·.1)).Nodup) : ∀ e ∈ E, lookN E e.1 = some e.2.2 := by
  induction E with
  | nil => intro e m; cases m
  | cons x r ih =>
    rw [List.map_cons, List.nodup_cons] at n
    intro e m
    unfold lookN
    rcases List.mem_cons.mp m with rfl | m
    · rw [List.find?_cons_of_pos (by simp)]; rfl
    · rw [List.find?_cons_of_neg (by simpa using fun z => n.1 (by rw [z]; exact List.mem_map_of_mem m))]
      exact ih n.2 e m
/-! ### {} -/
def tDNewN (P : Program) (w : World) : TE := fun _ H Q => ∀ p, H p = none → Q (.ref p) (upd H p (dN P w p []))
theorem pe_dnewN {X : Cx} {P : Program} {w : World} {pos : Pos} (hP : X.prog = P := by rfl) (hw : X.w = w := by rfl) : PE X (.Dict [] [] pos) (tDNewN P w) := ⟨fun pins s σ H Q I h => by
  subst hP hw
  have d0 : ObjOk X.prog X.w (upd H s.heap.objs.size (dN X.prog X.w s.heap.objs.size [])) (s.heap.push { cls := .type "dict", data := .dict #[] }) s.heap.objs.size (dN X.prog X.w s.heap.objs.size []) := by
    obtain ⟨_, e, _, _, _, _, _, h1, h2, h3, _⟩ := dt_empty (P := X.prog) (w := X.w) (H := H) s.heap I.big
    exact dn_ok ⟨beq_eq_false_iff_ne.mpr (Ne.symm (Nat.ne_of_lt I.big)), Nat.zero_le _, List.nodup_nil, [], .nil, _, #[], 0, Heap.get?_push_size _ rfl, ⟨rfl, rfl, rfl⟩, rfl, rfl⟩
  exact wpAny_Dict_empty ⟨.ref s.heap.objs.size, _, I.laid (a := s.heap.objs.size) (t' := s.toks) (fun _ _ q => Heap.get?_push_of_some _ q) (Nat.le_refl _) d0, rfl, h _ (I.hok.fresh (Nat.le_refl _))⟩⟩
/-! ### methods of such a dict -/
def IsN (P : Program) (w : World) (x : V) (H : Hp) : Prop := ∃ (D : Addr) (E : NE), x = .ref D ∧ H D = some (dN P w D E)
theorem isN_is {X : Cx} {pins : List (Addr × Obj)} {σ : L2.St} {H : Hp} {s : Shared} {x : V} {v : Value} (I : Inv X pins σ H s) (r : RelV x v) (ty : IsN X.prog X.w x H) :
    s.TypeIs v "dict" ∧ ∀ a, v = .ref a → ∃ ob, s.heap.get? a = some ob ∧ ob.dict = none := by
  obtain ⟨D, E, rfl, hD⟩ := ty
  cases r
  obtain ⟨_, _, _, xs, _, o, es, ep, h1, h2, h3, _⟩ := (show ObjOk X.prog X.w H s.heap D (dN X.prog X.w D E) from I.hok D _ hD).1
  exact ⟨⟨o, h1, h2.1⟩, fun a e => by cases e; exact ⟨o, h1, h2.2.1⟩⟩
def tBM0N (P : Program) (w : World) (r : V → List V → Hp → VK → Prop) (to : TE) : TE := fun σ H Q => to σ H fun x H1 => IsN P w x H1 ∧ r x [] H1 Q
def tBMN (P : Program) (w : World) (r : V → List V → Hp → VK → Prop) (to : TE) (t : TA) : TE := fun σ H Q => to σ H fun x H1 => IsN P w x H1 ∧ t σ H1 fun xs H2 => r x xs H2 Q
section
variable {X : Cx} {P : Program} {w : World} {o e : Expr} {es : List Expr} {to : TE} {t : TA} {name : Str} {apos cpos : Pos} {id : String} {r : V → List V → Hp → VK → Prop}
theorem pe_bm0N (pa : PlainAttrs "dict") (slot : Slot "dict" name id) (hty : typeOf (.builtin id) = pure (.type "method_descriptor")) (hm : MtR X id r) (ho : PE X o to)
    (hbase : attributeBase o name X.env (eval o X.env) = eval o X.env := by rfl) (hline : (apos.endLine == cpos.line) = true := by rfl) (hP : X.prog = P := by rfl) (hw : X.w = w := by rfl) : PE X (.Call (.Attribute o name apos) [] [] cpos) (tBM0N P w r to) := by
  subst hP hw
  refine ⟨fun pins s σ H Q I h => ?_⟩
  refine wpAny_Call_method0_late hbase hline (thn (ho.run pins s σ H _ I h) fun v s1 ⟨x, H1, I1, r1, ty, q1⟩ => ?_)
  obtain ⟨h1, h2⟩ := isN_is I1 r1 ty
  exact ⟨"dict", id, pa, slot, hty, h1, h2, Calls.callWith_builtin rfl (PySem.evalArgs_none (hm pins s1 σ H1 x [] v [] Q I1 r1 .nil q1))⟩
theorem pe_bmN (pa : PlainAttrs "dict") (slot : Slot "dict" name id) (hty : typeOf (.builtin id) = pure (.type "method_descriptor")) (hm : MtR X id r) (ho : PE X o to) (ha : PA X (e :: es) t)
    (hbase : attributeBase o name X.env (eval o X.env) = eval o X.env := by rfl)
    (hfew : ((backTo cpos (starEach (e :: es) X.env)).all (fun x => !x.1) && (backToKw cpos (keywordEach [] X.env)).all (fun x => x.1.isSome)
      && decide ((e :: es).length + ([] : List Keyword).length + (if ([] : List Keyword).isEmpty then 0 else 1) < 30)) = true := by rfl)
    (hline : (apos.endLine == cpos.line) = true := by rfl) (hs : starEach (e :: es) X.env = (false, eval e X.env) :: starEach es X.env := by rfl) (hplain : (backTo cpos (starEach es X.env)).any (·.1) = false := by rfl) (hP : X.prog = P := by rfl) (hw : X.w = w := by rfl) :
    PE X (.Call (.Attribute o name apos) (e :: es) [] cpos) (tBMN P w r to t) := by
  subst hP hw
  refine ⟨fun pins s σ H Q I h => ?_⟩
  refine wpAny_Call_method_late hbase hfew hline rfl (thn (ho.run pins s σ H _ I h) fun v s1 ⟨x, H1, I1, r1, ty, q1⟩ => ?_)
  obtain ⟨h1, h2⟩ := isN_is I1 r1 ty
  refine ⟨"dict", id, pa, slot, hty, h1, h2, ?_⟩
  have hA := ha.run cpos pins s1 σ H1 _ I1 q1
  rw [hs] at hA ⊢
  refine Calls.callWith_builtin (by show (false || (backTo cpos (starEach es X.env)).any (·.1)) = false; rw [hplain] <;> rfl) (Calls.evalArgs_plain ?_)
  exact thn hA fun us s2 ⟨vs, H2, I2, r2, q2⟩ => hm pins s2 σ H2 x vs v us Q I2 r1 r2 q2
end
/-! ### d.setdefault(k, x) -/
def rSetdN (P : Program) (w : World) : V → List V → Hp → VK → Prop := fun x xs H Q => ∃ (D : Addr) (E : NE) (k : NK) (a : Addr) (y : V), x = .ref D ∧ xs = [.ref a, y] ∧ H D = some (dN P w D E) ∧ (∀ e ∈ E, NkAt H e.1 e.2.1) ∧ NkAt H k a ∧ E.length < sizeLine ∧
  (∀ v, lookN E k = some v → Q v H) ∧ (lookN E k = none → Q y (upd H D (dN P w D (E ++ [(k, a, y)]))))
theorem kn_snoc {E : NE} {xs : List (NestedKey × Addr × Value)} (r : KN E xs) {k : NK} {a : Addr} {y : V} {u : Value} (h : RelV y u) : KN (E ++ [(k, a, y)]) (xs ++ [(nk k, a, u)]) := by
  unfold KN at r ⊢
  induction r with
  | nil => exact .cons ⟨rfl, rfl, h⟩ .nil
  | cons g _ ih => exact .cons g ih
theorem mt_setdN {X : Cx} {P : Program} {w : World} {k : Nat} (hr : Room k X.A) (hP : X.prog = P := by rfl) (hw : X.w = w := by rfl) : MtR X "dict.setdefault" (rSetdN P w) := by
  subst hP hw
  intro pins s σ H x xs v us Q I rx rxs h
  obtain ⟨D, E, k, a, y, rfl, rfl, hD, hE, hk, hz, q1, q2⟩ := h
  cases rx
  obtain ⟨u1, u2, rfl, r1, r2⟩ := vals2 rxs
  cases r1
  obtain ⟨hd, z, nd, xs', rel, dd⟩ := kn_dict I.hok hD hE
  have un := hr.un
  have lx : xs'.length = E.length := (Paired.length rel).symm
  refine call_setdefault_heap (knd := nestedKind X.prog X.w) (k := nk k) (by show X.A.units + 1 + 8 < cLine; omega) (nested_of I.hok hk) hd dd (fun p hp => ?_) (fun hn h' dd' hs => ?_) (by rw [lx]; exact z)
  · rcases kn_look rel k with ⟨_, n2⟩ | ⟨v, p', n1, n2, rv⟩
    · rw [n2] at hp; cases hp
    · rw [n2] at hp
      cases hp
      show EP X pins σ Q p.2 _
      exact ⟨v, H, I.tok _, rv, q1 v n1⟩
  · rcases kn_look rel k with ⟨n1, _⟩ | ⟨v, p', _, n2, _⟩
    · have st : storedH xs' (nk k) a u2 = xs' ++ [(nk k, a, u2)] := by
        unfold storedH
        rw [hn]
        rfl
      obtain ⟨o, es, ep, g1, g2, g3, g4, _, _⟩ := dd'
      rw [st] at g4
      have ok2 : ObjOk X.prog X.w (upd H D (dN X.prog X.w D (E ++ [(k, a, y)]))) h' D (dN X.prog X.w D (E ++ [(k, a, y)])) := by
        refine dn_ok ⟨hd, by rw [List.length_append]; exact hz, ?_, xs' ++ [(nk k, a, u2)], kn_snoc rel r2, o, es, ep, g1, g2, g3, g4⟩
        rw [List.map_append, List.nodup_append]
        refine ⟨nd, by simp, fun b hb c hc e => ?_⟩
        have hc : c = k := by simpa using hc
        exact lookN_none n1 (by rw [← hc, ← e]; exact hb)
      have I2 := d_write (t' := s.toks + (nestedKind X.prog X.w).draws (nk k)) I (by rw [hD]; exact True.intro) hs ⟨o, g1⟩ ok2
      show EP X pins σ Q u2 _
      exact ⟨y, _, I2, r2, q2 n1⟩
    · rw [n2] at hn; cases hn
/-! ### d.items() -/
def rItemsN (P : Program) (w : World) : V → List V → Hp → VK → Prop := fun x xs H Q => ∃ (D : Addr) (E : NE), x = .ref D ∧ xs = [] ∧ H D = some (dN P w D E) ∧ ∀ p, H p = none → Q (.ref p) (upd H p (L2.DX.itemsO p D))
theorem dn_raw {P : Program} {w : World} {H : Hp} {h : Heap} (ok : HOk P w H h) {D : Addr} {E : NE} (e : H D = some (dN P w D E)) : (D == sysModules) = false ∧ ∃ o es ep xs, KN E xs ∧ h.get? D = some o ∧ o.ExactDict ∧ o.data = .dict es ep ∧ es.toList = xs.map (entryOfKey (nestedKind P w)) := by
  obtain ⟨a, b, c, xs, r, o, es, ep, h1, h2, h3, h4⟩ := (show ObjOk P w H h D (dN P w D E) from ok D _ e).1
  exact ⟨a, o, es, ep, xs, r, h1, h2, h3, h4⟩
theorem mt_itemsN {X : Cx} {P : Program} {w : World} (hP : X.prog = P := by rfl) (hw : X.w = w := by rfl) : MtR X "dict.items" (rItemsN P w) := by
  subst hP hw
  intro pins s σ H x xs v us Q I rx rxs h
  obtain ⟨D, E, rfl, rfl, hD, q⟩ := h
  cases rx
  cases rxs
  obtain ⟨hd, o, es, ep, xs, _, h1, h2, h3, _⟩ := dn_raw I.hok hD
  refine DT.callItems (es := es) (ep := ep) hd ⟨o, h1, h2, h3⟩ ?_
  have hf : H s.heap.objs.size = none := I.hok.fresh (Nat.le_refl _)
  exact ⟨.ref s.heap.objs.size, upd H s.heap.objs.size (L2.DX.itemsO s.heap.objs.size D), I.laid (t' := s.toks) (fun b u e => Heap.get?_push_of_some _ e) (Nat.le_refl _) (L2.DX.itemsO_ok (Heap.get?_push_size _ rfl)), rfl, q _ hf⟩
/-- the pairs, each a new tuple -/
def ItN (D : Addr) (o : Obj) (E : NE) : It :=
  ⟨fun i H => H D = some (dF D o) ∧ i < E.length, fun i H x H' => ∃ T e, E[i]? = some e ∧ x = .ref T ∧ H T = none ∧ H' = upd H T (.tup [.ref e.2.1, e.2.2]), fun i H => H D = some (dF D o) ∧ E.length ≤ i⟩
theorem walk_itemsN {D : Addr} {o : Obj} {E : NE} : Walk (ItN D o E) E.length (fun H => H D = some (dF D o)) (YPair (fun i => (E[i]?).map fun e => V.ref e.2.1) (fun i => (E[i]?).map fun e => e.2.2)) := by
  refine ⟨fun i _ hi q => ⟨q, hi⟩, fun _ q => ⟨q, Nat.le_refl _⟩, fun i H v H' _ q y => ?_⟩
  obtain ⟨T, e, h1, h2, h3, h4⟩ := y
  exact ⟨T, .ref e.2.1, e.2.2, h2, h3, h4, by show (E[i]?).map _ = _; rw [h1]; rfl, by show (E[i]?).map _ = _; rw [h1]; rfl⟩
theorem turn_itemsN {P : Program} {w : World} {K : PySem.W.Frag} {elts : List Expr} {kk : Nat} {tpos : Pos} {D : Addr} {o : Obj} {E : NE} {es : Array DictEntry} {ep : Nat} {xs : List (NestedKey × Addr × Value)} (it : Addr) (r : KN E xs) (hx : o.ExactDict) (hod : o.data = .dict es ep) (hes : es.toList = xs.map (entryOfKey (nestedKind P w))) :
    Turn P w K (.Tuple elts kk tpos) (ItN D o E) [it] it (fun i h => ∃ ok ov, IsItemIter h it D i es.size ep ok ov) where
  mem := by simp
  obj := fun i h st b hb => by
    have e : b = it := by simpa using hb
    subst e
    obtain ⟨ok, ov, e⟩ := st
    exact ⟨_, e, fun v z => nomatch z⟩
  keep := fun i h h' st k => let ⟨ok, ov, e⟩ := st; ⟨ok, ov, k it (by simp) _ e⟩
  item := by
    intro X hP hw hK hc i pins s σ H E' I hf st hg
    subst hP hw hK
    obtain ⟨hD, hi⟩ := hg
    have hdo : s.heap.get? D = some o := (show ObjOk X.prog X.w H s.heap D (dF D o) from I.hok D _ hD).1
    have l1 : es.size = xs.length := size_of_entries hes
    have l2 : E.length = xs.length := Paired.length r
    obtain ⟨e, he⟩ : ∃ e, E[i]? = some e := ⟨E[i], List.getElem?_eq_getElem hi⟩
    have hix : i < xs.length := by omega
    have hie : i < es.size := by omega
    have hxi : xs[i]? = some xs[i] := List.getElem?_eq_getElem hix
    obtain ⟨e', he', r1, r2, r3⟩ := L2.DX.pget r hxi
    rw [he] at he'
    cases he'
    have ent : es[i] = entryOfKey (nestedKind X.prog X.w) xs[i] := by
      have z := entry_at hes i
      rw [Array.getElem?_eq_getElem hie, hxi] at z
      exact Option.some.inj z
    have ek : es[i].key = Value.ref e.2.1 := by rw [ent, ← r2]; rfl
    have ev : es[i].val = xs[i].2.2 := by rw [ent]; rfl
    obtain ⟨ok, ov, hit⟩ := st
    have hlt : it < s.heap.objs.size := Heap.lt_size hit
    refine DT.nextI hit ⟨o, hdo, hx, hod⟩ hie fun h' ho hT hz hk => ?_
    refine ⟨_, rfl, wpAny_letOwnedTupleGo_items (s := { s with heap := h' }) ho fun h'' he' sb => ?_⟩
    have hT2 : h''.get? s.heap.objs.size = some { cls := .type "tuple", data := .seq #[es[i].key, es[i].val] } := (sb.2 _ (Nat.ne_of_gt hlt)).trans hT
    have new : ObjOk X.prog X.w (upd H s.heap.objs.size (.tup [.ref e.2.1, e.2.2])) h'' s.heap.objs.size (.tup [.ref e.2.1, e.2.2]) :=
      ⟨by show 2 ≤ sizeLine; decide, [es[i].key, es[i].val], .cons (by rw [ek]; rfl) (.cons (by rw [ev]; exact r3) .nil), ⟨_, hT2, rfl, _, rfl⟩⟩
    have I1 : Inv X pins σ (upd H s.heap.objs.size (.tup [.ref e.2.1, e.2.2])) { s with heap := h'' } :=
      I.turnedNew (t' := s.toks) (ch := [it]) (fun b ob hb e => (sb.2 b (by simpa using hb)).trans (hk b ob (by simpa using hb) e)) hf (Nat.le_refl _) new
    refine ⟨.ref s.heap.objs.size, _, I1, rfl, ⟨_, e, he, rfl, I.hok.fresh (Nat.le_refl _), rfl⟩, ⟨_, _, he'⟩, fun b hb => ?_⟩
    have e2 : b = it := by simpa using hb
    rw [e2, upd_ne (Nat.ne_of_lt hlt)]
    exact (hf it (by simp)).1
  done := by
    intro X hP hw hK hc i pins s σ H E' I hf st hg
    subst hP hw hK
    obtain ⟨hD, hi⟩ := hg
    obtain ⟨f0, f1, f2, f3, f4, f5⟩ := hf it (by simp)
    have hdo : s.heap.get? D = some o := (show ObjOk X.prog X.w H s.heap D (dF D o) from I.hok D _ hD).1
    have l1 : es.size = xs.length := size_of_entries hes
    have l2 : E.length = xs.length := Paired.length r
    obtain ⟨ok, ov, hit⟩ := st
    exact DT.endI (I.ok.hd hc) hit ⟨o, hdo, hx, hod⟩ (by omega) fun h' eb => ⟨rfl, I.turned (t' := s.toks) (fun b ob hb e => eb b ob hb e) f0 f1 f3 f4 f5⟩
  self := fun A i s Q E st h => let ⟨_, _, e⟩ := st; PySem.W.kcp_self e h
def iItemsN (P : Program) (w : World) (td : TE) : TI := fun σ H R => td σ H fun x H1 => ∃ p D E, x = .ref p ∧ H1 p = some (L2.DX.itemsO p D) ∧ H1 D = some (dN P w D E) ∧ ∀ o, R (ItN D o E) (upd H1 D (dF D o))
theorem pi_itemsN {X : Cx} {P : Program} {w : World} {e : Expr} {td : TE} {elts : List Expr} {kk : Nat} {tpos : Pos} (he : PE X e td) (hP : X.prog = P := by rfl) (hw : X.w = w := by rfl) : PI X (.Tuple elts kk tpos) e (iItemsN P w td) := by
  subst hP hw
  refine ⟨fun pins s σ H R I h => ?_⟩
  refine thn (he.run pins s σ H _ I h) fun u s1 ⟨x, H1, I1, rx, p, D, E, ex, hp, hD, q⟩ => ?_
  subst ex
  obtain rfl : u = Value.ref p := rx
  have view : s1.heap.IsItemsView p D := (show ObjOk X.prog X.w H1 s1.heap p (L2.DX.itemsO p D) from I1.hok p _ hp).1
  obtain ⟨hd, o, es, ep, xs, r, h1, h2, h3, h4⟩ := dn_raw I1.hok hD
  have I2 : Inv X pins σ (upd H1 D (dF D o)) s1 := by
    have := d_write (t' := s1.toks) I1 (by rw [hD]; exact True.intro) (Heap.SameBut.refl _ _) ⟨o, h1⟩ (df_ok h1)
    exact this
  exact DT.iterI view ⟨o, h1, h2, h3⟩ (pi_one (tk := s1.toks) I2 _ (turn_itemsN _ r h2 h3 h4) ⟨.none, .none, Heap.get?_push_size _ rfl⟩ (q o))
end SH
set_option Elab.async false
set_option linter.all false
set_option maxRecDepth 100000
set_option maxHeartbeats 4000000
namespace SH
open PySem PySem.Spec PyProof.Rows L2
def topS (i : Nat) : Stmt := PySem.Challenge.pw_suffixhouse_k03_classes_of_stretches.main.body.getD i (.Pass ⟨0, 0, 0, 0⟩)
abbrev s_classes : Stmt := topS 1
abbrev s__ends_of_words : Stmt := topS 2
abbrev s__law_draws : Stmt := topS 4
abbrev s__law_mix : Stmt := topS 7
abbrev s__law_letter : Stmt := topS 8
abbrev s__law_text : Stmt := topS 9
abbrev s__law_house : Stmt := topS 10
abbrev s__law_stands : Stmt := topS 11
abbrev s__law_words : Stmt := topS 12
abbrev s__law_ends : Stmt := topS 13
abbrev s__law_classes : Stmt := topS 14
abbrev s_law : Stmt := topS 15
structure Ea where
  fI : Addr
structure Txt (K : PySem.W.Frag) (mg : Str → Option Value) (ea : Ea) : Prop where
  b_abs : mg "abs" = none
  b_bool : mg "bool" = none
  b_int : mg "int" = none
  b_isinstance : mg "isinstance" = none
  b_len : mg "len" = none
  b_list : mg "list" = none
  b_min : mg "min" = none
  b_range : mg "range" = none
  b_sorted : mg "sorted" = none
  b_tuple : mg "tuple" = none
  d_classes : Dd K mg "classes" s_classes ["house"]
  d__ends_of_words : Dd K mg "_ends_of_words" s__ends_of_words ["house"]
  d__law_draws : Dd K mg "_law_draws" s__law_draws ["script"]
  d__law_mix : Dd K mg "_law_mix" s__law_mix ["draws", "k", "many"]
  d__law_letter : Dd K mg "_law_letter" s__law_letter ["cell"]
  d__law_text : Dd K mg "_law_text" s__law_text ["draws", "k", "most"]
  d__law_house : Dd K mg "_law_house" s__law_house ["draws", "k", "many", "most"]
  d__law_stands : Dd K mg "_law_stands" s__law_stands ["text", "word", "start"]
  d__law_words : Dd K mg "_law_words" s__law_words ["house"]
  d__law_ends : Dd K mg "_law_ends" s__law_ends ["house", "word"]
  d__law_classes : Dd K mg "_law_classes" s__law_classes ["house"]
  d_law : Dd K mg "law" s_law ["script"]
section
variable {P : Program} {w : World} {K : PySem.W.Frag} {mg : Str → Option Value} {base : Heap} {ea : Ea}
theorem sc__law_mix : FnScope ["draws", "k", "many", "value"] ["draws", "k", "many"] (defScope s__law_mix) := ⟨rfl, rfl, rfl, by decide +kernel, rfl, by decide +kernel, by decide +kernel⟩
theorem ok__law_mix (T : Txt K mg ea) : Cl P w K mg base 1 "_law_mix" (spDraw K) := by
  have nd := sc__law_mix.nd
  refine cl_of T.d__law_mix sc__law_mix (fun vs H Q E h => ?_) (fun f cdv A outer s H vs Q E hr h => ?_)
  · obtain ⟨a, ns, k, many, rfl, _⟩ := h
    rfl
  · obtain ⟨a, ns, k, many, rfl, hS, hD, h0, h1, hm, q⟩ := h
    refine ⟨_, (pss_cons (ps_set (i := 3) nd rfl (.inl rfl) pe_int)
      (C8.pss_cut (ps_if (pt_cmpR op_gt (pe_callB call_len_seq (by rfl) T.b_len PySem.boot_len (pa_cons (pv 0) pa_nil)) pe_int (nomark _))
        (pss_one (ps_set (i := 3) nd rfl (.inl rfl) (pe_ix (ixl (K := K)) (pv 0) (pe_op op_mod (pe_callTy call_int1 (by rfl) T.b_int (by decide +kernel) (pa_cons (pv 1) pa_nil)) (pe_callB call_len_seq (by rfl) T.b_len PySem.boot_len (pa_cons (pv 0) pa_nil))) (fun _ _ => rfl))))
        pss_nil)
      (pss_cons (ps_if (pt_cmpR op_lt (pv 1) (pe_callB call_len_seq (by rfl) T.b_len PySem.boot_len (pa_cons (pv 0) pa_nil)) (nomark _))
        (pss_one (ps_ret (pe_op op_mod (pe_callTy call_int1 (by rfl) T.b_int (by decide +kernel) (pa_cons (pv 3) pa_nil)) (pv 2))))
        pss_nil)
      (pss_one (ps_ret (pe_op op_mod (pe_callTy call_int1 (by rfl) T.b_int (by decide +kernel) (pa_cons (pe_op op_fdiv (pe_callTy call_int1 (by rfl) T.b_int (by decide +kernel) (pa_cons (pe_op op_add (pe_op op_mul (pv 3) pe_int) (pe_op op_mul (pv 1) pe_int)) pa_nil)) pe_int) pa_nil)) (pv 2))))))), ?_⟩
    have hl : (ns.map V.int).length = ns.length := List.length_map ..
    -- the value is a small number behind the if
    refine ⟨fun σ H' => H' = H ∧ ∃ z : Int, 0 ≤ z ∧ z < 65536 ∧ σ = [some (.ref a), some (.int k), some (.int many), some (.int z)], ?_, ?_⟩
    · refine ⟨_, rfl, _, _, rfl, .inl hS, _, _, rfl, rfl, _, rfl, ite2 (fun e => ?_) (fun e => ?_)⟩
      · have e' := of_decide_eq_true e
        rw [hl] at e'
        obtain ⟨z, hz, hm2⟩ := at_ints (ns := ns) (i := k % (ns.length : Int)) (Int.emod_nonneg _ (by omega)) (Int.emod_lt_of_pos _ (by omega))
        refine ⟨_, rfl, _, rfl, .inl ⟨_, rfl, _, rfl, _, _, rfl, .inl hS, _, _, rfl, rfl, (by show (0 : Int) < ((ns.map V.int).length : Int); omega), ?_⟩⟩
        refine ⟨_, _, _, _, rfl, rfl, hS, (by rw [hl]; exact hz), ?_⟩
        exact ⟨rfl, z, (hD.2 z hm2).1, (hD.2 z hm2).2, rfl⟩
      · exact ⟨rfl, 0, by omega, by omega, rfl⟩
    · rintro σ' H' ⟨rfl, z, z0, z1, rfl⟩
      refine ⟨_, rfl, _, rfl, _, _, rfl, .inl hS, _, _, rfl, rfl, _, rfl, ite2 (fun e => ?_) (fun e => ?_)⟩
      · refine ⟨_, rfl, .inl ⟨_, rfl, _, rfl, _, _, rfl, rfl, hm, ?_⟩⟩
        exact q _ (Int.emod_nonneg _ (by omega)) (Int.emod_lt_of_pos _ hm)
      · refine ⟨_, rfl, _, _, rfl, rfl, .inr (by decide), _, rfl, _, _, rfl, rfl, .inr (by decide), _, _, rfl, rfl, .inl ⟨_, rfl, _, _, rfl, rfl, (by constructor <;> decide), .inl ⟨_, rfl, _, rfl, _, _, rfl, rfl, hm, ?_⟩⟩⟩
        exact q _ (Int.emod_nonneg _ (by omega)) (Int.emod_lt_of_pos _ hm)
/-- a letter -/
def spLetter : Sp := fun vs H Q _ => ∃ i : Int, vs = [.int i] ∧ ∀ c : Nat, okc c = true → Q (.str ⟨#[c]⟩) H
theorem sc__law_letter : FnScope ["cell", "table"] ["cell"] (defScope s__law_letter) := ⟨rfl, rfl, rfl, by decide +kernel, rfl, by decide +kernel, by decide +kernel⟩
theorem ok__law_letter (T : Txt K mg ea) : Cl P w K mg base 1 "_law_letter" spLetter := by
  have nd := sc__law_letter.nd
  refine cl_of T.d__law_letter sc__law_letter (fun vs H Q E h => ?_) (fun f cdv A outer s H vs Q E hr h => ?_)
  · obtain ⟨i, rfl, _⟩ := h
    rfl
  · obtain ⟨i, rfl, q⟩ := h
    refine ⟨_, (pss_cons (ps_set (i := 1) nd rfl (.inl rfl) pe_str)
      (pss_one (ps_ret (pe_ix ix_str (pv 1) (pe_op op_mod (pe_callTy call_int1 (by rfl) T.b_int (by decide +kernel) (pa_cons (pv 0) pa_nil)) pe_int) (fun _ _ => rfl))))), ?_⟩
    refine ⟨_, rfl, _, rfl, .inl ⟨_, rfl, _, _, rfl, rfl, (by show (0 : Int) < 94; decide), ?_⟩⟩
    refine (?_ : ∀ z : Str, z.cps.toList.length = 94 → IsLet z → ∃ (z' : Str) (j : Int) (c : Nat), V.str z = .str z' ∧ V.int (i % 94) = .int j ∧ z'.length ≤ sizeLine ∧ atI z'.cps.toList j = some c ∧ Q (.str ⟨#[c]⟩) H) _ (by decide +kernel) (by decide +kernel)
    intro z hl hz
    obtain ⟨c, hc, hm⟩ := str_at (z := z) (i := i % 94) (Int.emod_nonneg _ (by decide)) (by rw [hl]; exact Int.emod_lt_of_pos _ (by decide))
    refine ⟨z, _, c, rfl, rfl, ?_, hc, q c (List.all_eq_true.mp hz c hm)⟩
    have : z.length = 94 := by simpa [Str.length] using hl
    rw [this]
    decide
/-- a text of at most so many letters -/
def spText (K : PySem.W.Frag) : Sp := fun vs H Q _ => ∃ (a : Addr) (ns : List Int) (k : Int) (most : Nat), vs = [.ref a, .int k, .int most] ∧ SqL K H a (ns.map V.int) ∧ Dr ns ∧ 0 ≤ k ∧ k < 50000 ∧ most ≤ 100 ∧
  ∀ (z : Str) (H' : Hp), Same H H' → IsLet z → z.length ≤ most → Q (.str z) H'
theorem sc__law_text : FnScope ["draws", "k", "most", "word", "text", "n", "cell", "letters"] ["draws", "k", "most"] (defScope s__law_text) := ⟨rfl, rfl, rfl, by decide +kernel, rfl, by decide +kernel, by decide +kernel⟩
theorem ok__law_text (T : Txt K mg ea) (c__law_mix : Cl P w K mg base 1 "_law_mix" (spDraw K)) (c__law_letter : Cl P w K mg base 1 "_law_letter" spLetter) : Cl P w K mg base 2 "_law_text" (spText K) := by
  have nd := sc__law_text.nd
  refine cl_of T.d__law_text sc__law_text (fun vs H Q E h => ?_) (fun f cdv A outer s H vs Q E hr h => ?_)
  · obtain ⟨a, ns, k, most, rfl, _⟩ := h
    rfl
  · obtain ⟨a, ns, k, most, rfl, hS, hD, h0, h1, hm, q⟩ := h
    refine ⟨_, (pss_cons (ps_set (i := 3) nd rfl (.inl rfl) (C8.pe_c c__law_mix hr (by decide) (by rfl) (pa_cons (pv 0) (pa_cons (pe_op op_add (pv 1) pe_int) (pa_cons pe_int pa_nil)))))
      (pss_cons (ps_set (i := 4) nd rfl (.inl rfl) pe_str)
      (pss_cons (ps_for PassesOwn.never rfl (pi_range1 rfl T.b_range (pa_cons (C8.pe_c c__law_mix hr (by decide) (by rfl) (pa_cons (pv 0) (pa_cons (pv 1) (pa_cons (pe_op op_add (pv 2) pe_int) pa_nil)))) pa_nil)) (pg_name (i := 5) nd rfl (.inl rfl))
        (pss_cons (ps_set (i := 6) nd rfl (.inl rfl) (C8.pe_c c__law_mix hr (by decide) (by rfl) (pa_cons (pv 0) (pa_cons (pe_op op_add (pe_op op_add (pv 1) pe_int) (pv 5)) (pa_cons pe_int pa_nil)))))
          (pss_cons (ps_set (i := 7) nd rfl (.inl rfl) (pe_lst (pa_cons (pe_ix ix_str pe_str (pe_op op_mod (pe_callTy call_int1 (by rfl) T.b_int (by decide +kernel) (pa_cons (pe_op op_fdiv (pv 6) pe_int) pa_nil)) pe_int) (fun _ _ => rfl)) (pa_cons (pe_ix ix_str pe_str (pe_op op_mod (pe_callTy call_int1 (by rfl) T.b_int (by decide +kernel) (pa_cons (pe_op op_fdiv (pv 6) pe_int) pa_nil)) pe_int) (fun _ _ => rfl)) (pa_cons (pe_ix ix_str pe_str (pe_op op_andM (pe_callTy call_int1 (by rfl) T.b_int (by decide +kernel) (pa_cons (pv 6) pa_nil)) pe_int) (fun _ _ => rfl)) (pa_cons (C8.pe_c c__law_letter hr (by decide) (by rfl) (pa_cons (pv 6) pa_nil)) (pa_cons pe_str pa_nil)))))))
          (pss_one (ps_set (i := 4) nd rfl (.inl rfl) (pe_op op_add_str (pv 4) (pe_ix (ixl (K := K)) (pv 7) (pv 3) (fun _ _ => rfl))))))))
      (pss_one (ps_ret (pv 4)))))), ?_⟩
    refine ⟨_, rfl, _, rfl, _, _, rfl, rfl, a, ns, k + 1, 5, rfl, hS, hD, by omega, by omega, by omega, fun word w0 w1 => ?_⟩
    refine ⟨_, rfl, _, rfl, _, rfl, _, _, rfl, rfl, a, ns, k, (most : Int) + 1, rfl, hS, hD, by omega, by omega, by omega, fun r r0 r1 => ?_⟩
    refine ⟨r, rfl, by omega, by omega, ?_⟩
    refine for_range (lo := 0) (n := r.toNat) (fun i σ H' => ∃ (z : Str) (y5 y6 y7 : Option V), σ = [some (.ref a), some (.int k), some (.int most), some (.int word), some (.str z), y5, y6, y7] ∧ Same H H' ∧ IsLet z ∧ z.length ≤ i)
      ⟨_, none, none, none, rfl, Same.refl H, (by decide), (by decide)⟩ (fun i σ H' hi hW => ?_) (fun σ H' hW => ?_)
    · obtain ⟨z, y5, y6, y7, rfl, sm, hz, hl⟩ := hW
      have hS1 := sm.seq hS
      refine ⟨_, rfl, _, rfl, _, _, rfl, rfl, _, rfl, _, _, rfl, rfl, a, ns, k + 2 + (0 + (i : Int)), 9000, rfl, hS1, hD, by omega, by omega, by omega, fun cell c0 c1 => ?_⟩
      refine ⟨_, rfl, _, _, rfl, rfl, (by constructor <;> decide), .inl ⟨_, rfl, _, _, rfl, rfl, (by show (0 : Int) < 2; decide), ?_⟩⟩
      refine ixs_let (by decide) (by decide) (Int.emod_nonneg _ (by decide)) (Int.emod_lt_of_pos _ (by decide)) fun u1 v1 => ?_
      refine ⟨_, rfl, _, _, rfl, rfl, (by constructor <;> decide), .inl ⟨_, rfl, _, _, rfl, rfl, (by show (0 : Int) < 3; decide), ?_⟩⟩
      refine ixs_let (by decide) (by decide) (Int.emod_nonneg _ (by decide)) (Int.emod_lt_of_pos _ (by decide)) fun u2 v2 => ?_
      refine ⟨_, rfl, .inl ⟨_, rfl, cell, 2, rfl, rfl, ?_⟩⟩
      refine ixs_let (by decide) (by decide) (Int.emod_nonneg _ (by decide)) (Int.emod_lt_of_pos _ (by decide)) fun u3 v3 => ?_
      refine ⟨_, rfl, cell, rfl, fun u4 v4 => ?_⟩
      refine ⟨(by show 5 ≤ sizeLine; decide), fun l hl2 => ?_⟩
      have sm2 : Same H (upd H' l (.lst ([(⟨#[u1]⟩ : Str), ⟨#[u2]⟩, ⟨#[u3]⟩, ⟨#[u4]⟩, "a"].map V.str))) := sm.trans (same_new hl2)
      obtain ⟨x, hx, hxm⟩ := at_map V.str (xs := [(⟨#[u1]⟩ : Str), ⟨#[u2]⟩, ⟨#[u3]⟩, ⟨#[u4]⟩, "a"]) (i := word) w0 w1
      have hx1 : IsLet x ∧ x.length = 1 := by
        simp only [List.mem_cons, List.not_mem_nil, or_false] at hxm
        rcases hxm with e | e | e | e | e <;> subst e
        · exact ⟨let_one v1, rfl⟩
        · exact ⟨let_one v2, rfl⟩
        · exact ⟨let_one v3, rfl⟩
        · exact ⟨let_one v4, rfl⟩
        · exact ⟨by decide, by decide⟩
      refine ⟨_, rfl, _, rfl, _, rfl, l, _, word, .str x, rfl, rfl, .inl (.inl upd_same), hx, z, x, rfl, rfl, ?_, ?_⟩
      · exact Nat.le_trans (by omega : z.length + x.length ≤ 1000) (by decide)
      · exact ⟨_, _, _, _, rfl, sm2, let_app hz hx1.1, by rw [len_app]; omega⟩
    · obtain ⟨z, y5, y6, y7, rfl, sm, hz, hl⟩ := hW
      exact ⟨_, rfl, q z H' sm hz (by omega)⟩
/-- the numbers drawn from the script: a new list of small numbers -/
def spDraws (K : PySem.W.Frag) : Sp := fun vs H Q _ => ∃ (a : Addr) (ns : List Int), vs = [.ref a] ∧ SqL K H a (ns.map V.int) ∧ ns.length ≤ 63 ∧
  ∀ (p : Addr) (ds : List Int) (H' : Hp), Same H H' → H p = none → H' p = some (.lst (ds.map V.int)) → Dr ds → Q (.ref p) H'
/-- the list at p so far -/
structure DrAt (H H' : Hp) (p : Addr) (n : Nat) (ds : List Int) : Prop where
  sm : Same H H'
  at_ : H' p = some (.lst (ds.map V.int))
  len : ds.length ≤ n
  all : ∀ z ∈ ds, 0 ≤ z ∧ z < 65536
theorem DrAt.more {H H' : Hp} {p : Addr} {n : Nat} {ds : List Int} (h : DrAt H H' p n ds) (hp : H p = none) {z : Int} (z0 : 0 ≤ z) (z1 : z < 65536) : DrAt H (upd H' p (.lst (ds.map V.int ++ [.int z]))) p (n + 1) (ds ++ [z]) :=
  ⟨same_mut h.sm hp, by rw [upd_same, List.map_append]; rfl, by rw [List.length_append]; have := h.len; simp; omega, fun y hy => by
    rcases List.mem_append.mp hy with m | m
    · exact h.all y m
    · rw [List.mem_singleton.mp m]; exact ⟨z0, z1⟩⟩
theorem DrAt.mono {H H' : Hp} {p : Addr} {n m : Nat} {ds : List Int} (h : DrAt H H' p n ds) (l : n ≤ m) : DrAt H H' p m ds := ⟨h.sm, h.at_, Nat.le_trans h.len l, h.all⟩
theorem sc__law_draws : FnScope ["script", "draws", "k", "rest", "turn", "mixed"] ["script"] (defScope s__law_draws) := ⟨rfl, rfl, rfl, by decide +kernel, rfl, by decide +kernel, by decide +kernel⟩
theorem ok__law_draws (T : Txt K mg ea) : Cl P w K mg base 1 "_law_draws" (spDraws K) := by
  have nd := sc__law_draws.nd
  refine cl_of T.d__law_draws sc__law_draws (fun vs H Q E h => ?_) (fun f cdv A outer s H vs Q E hr h => ?_)
  · obtain ⟨a, ns, rfl, _⟩ := h
    rfl
  · obtain ⟨a, ns, rfl, hS, hl, q⟩ := h
    refine ⟨_, (pss_cons (ps_set (i := 1) nd rfl (.inl rfl) (pe_lst pa_nil))
      (pss_cons (ps_for PassesOwn.never rfl (pi_range1 rfl T.b_range (pa_cons (pe_callB (call_min2 rfl) (by rfl) T.b_min (by decide +kernel) (pa_cons pe_int (pa_cons (pe_callB call_len_seq (by rfl) T.b_len PySem.boot_len (pa_cons (pv 0) pa_nil)) pa_nil))) pa_nil)) (pg_name (i := 2) nd rfl (.inl rfl))
        (pss_cons (ps_set (i := 3) nd rfl (.inl rfl) (pe_callB call_abs (by rfl) T.b_abs (by decide +kernel) (pa_cons (pe_ix (ixl (K := K)) (pv 0) (pv 2) (fun _ _ => rfl)) pa_nil)))
          (pss_one (ps_if (pt_cmpR op_ge (pv 3) (pe_op op_pow pe_int pe_int) (nomark _))
            (pss_one (ps_for PassesOwn.never rfl (pi_range1 rfl T.b_range (pa_cons pe_int pa_nil)) (pg_name (i := 4) nd rfl (.inl rfl))
                (pss_one (ps_if (pt_cmpR op_gt (pv 3) pe_int (nomark _))
                    (pss_cons (ps_expr (pe_bm PySem.F.plainAttrs_list PySem.F.slot_list_append PySem.F.type_list_append mt_append (pv 1) (pa_cons (pe_op op_mod (pe_callTy call_int1 (by rfl) T.b_int (by decide +kernel) (pa_cons (pv 3) pa_nil)) pe_int) pa_nil)))
                      (pss_one (ps_set (i := 3) nd rfl (.inl rfl) (pe_op op_fdiv (pv 3) pe_int))))
                    pss_nil))))
            (pss_cons (ps_set (i := 5) nd rfl (.inl rfl) (pe_op op_mod (pe_callTy call_int1 (by rfl) T.b_int (by decide +kernel) (pa_cons (pe_op op_add (pe_op op_mul (pv 3) pe_int) (pe_op op_mul (pe_op op_add (pv 2) pe_int) pe_int)) pa_nil)) pe_int))
              (pss_cons (ps_set (i := 5) nd rfl (.inl rfl) (pe_op op_mod (pe_callTy call_int1 (by rfl) T.b_int (by decide +kernel) (pa_cons (pe_op op_add (pe_op op_add (pe_op op_mul (pv 5) pe_int) (pe_op op_mul pe_int (pv 2))) pe_int) pa_nil)) pe_int))
              (pss_cons (ps_expr (pe_bm PySem.F.plainAttrs_list PySem.F.slot_list_append PySem.F.type_list_append mt_append (pv 1) (pa_cons (pe_op op_mod (pe_callTy call_int1 (by rfl) T.b_int (by decide +kernel) (pa_cons (pv 5) pa_nil)) pe_int) pa_nil)))
              (pss_one (ps_expr (pe_bm PySem.F.plainAttrs_list PySem.F.slot_list_append PySem.F.type_list_append mt_append (pv 1) (pa_cons (pe_op op_mod (pe_callTy call_int1 (by rfl) T.b_int (by decide +kernel) (pa_cons (pe_op op_fdiv (pv 5) pe_int) pa_nil)) pe_int) pa_nil)))))))))))
      (pss_one (ps_ret (pv 1))))), ?_⟩
    refine ⟨Nat.zero_le _, fun p hp => ?_⟩
    have sm0 : Same H (upd H p (.lst [])) := same_new hp
    have hlen : (ns.map V.int).length = ns.length := List.length_map ..
    refine ⟨_, rfl, _, _, rfl, .inl (sm0.seq hS), _, _, rfl, ?_⟩
    have hm : (if ((ns.map V.int).length : Int) < 63 then ((ns.map V.int).length : Int) else 63) ≤ ns.length ∧ 0 ≤ (if ((ns.map V.int).length : Int) < 63 then ((ns.map V.int).length : Int) else 63) ∧ (if ((ns.map V.int).length : Int) < 63 then ((ns.map V.int).length : Int) else 63) ≤ 63 := by
      rw [hlen]; split <;> omega
    refine ⟨_, rfl, by omega, by omega, ?_⟩
    generalize (if ((ns.map V.int).length : Int) < 63 then ((ns.map V.int).length : Int) else 63) = m at hm ⊢
    obtain ⟨m1, m0, m2⟩ := hm
    refine for_range (lo := 0) (n := m.toNat) (fun i σ H' => ∃ (ds : List Int) (y2 y3 y4 y5 : Option V), σ = [some (.ref a), some (.ref p), y2, y3, y4, y5] ∧ DrAt H H' p (60 * i) ds)
      ⟨[], none, none, none, none, rfl, sm0, upd_same, Nat.zero_le _, fun z hz => by cases hz⟩ (fun i σ H' hi hW => ?_) (fun σ H' hW => ?_)
    · obtain ⟨ds, y2, y3, y4, y5, rfl, hA⟩ := hW
      obtain ⟨z, hz, _⟩ := at_ints (ns := ns) (i := 0 + (i : Int)) (by omega) (by omega)
      refine ⟨_, rfl, _, rfl, _, _, _, _, rfl, rfl, hA.sm.seq hS, hz, _, rfl, ?_⟩
      generalize (if z < 0 then -z else z) = r
      refine ⟨_, rfl, _, _, rfl, rfl, ⟨by decide, by decide, by decide⟩, _, _, rfl, rfl, _, rfl, ite2 (fun e => ?_) (fun e => ?_)⟩
      · -- a great number: its digits
        refine ⟨60, rfl, by decide, by decide, ?_⟩
        refine for_range (lo := 0) (n := 60) (fun j σ H' => ∃ (ds : List Int) (r' : Int) (y4 : Option V), σ = [some (.ref a), some (.ref p), some (.int (0 + (i : Int))), some (.int r'), y4, y5] ∧ DrAt H H' p (60 * i + j) ds)
          ⟨ds, r, y4, rfl, hA⟩ (fun j σ H2 hj hW => ?_) (fun σ H2 hW => ?_)
        · obtain ⟨ds2, r2, y42, rfl, hA2⟩ := hW
          refine ⟨_, rfl, _, _, rfl, rfl, _, rfl, ite2 (fun e => ?_) (fun e => ?_)⟩
          · refine ⟨_, rfl, .inl ⟨rfl, _, SqL.of hA2.at_⟩, _, rfl, .inl ⟨_, rfl, _, _, rfl, rfl, (by show (0 : Int) < 65536; decide), ?_⟩⟩
            refine ⟨p, _, _, rfl, rfl, hA2.at_, ?_, ?_⟩
            · rw [List.length_map]; exact Nat.lt_of_le_of_lt (Nat.le_trans hA2.len (by omega : _ ≤ 4000)) (by decide)
            · refine ⟨_, rfl, _, _, rfl, rfl, (by constructor <;> decide), ?_⟩
              exact ⟨_, _, _, rfl, hA2.more hp (Int.emod_nonneg _ (by decide)) (Int.emod_lt_of_pos _ (by decide))⟩
          · exact ⟨ds2, r2, _, rfl, hA2.mono (by omega)⟩
        · obtain ⟨ds2, r2, y42, rfl, hA2⟩ := hW
          exact ⟨ds2, _, _, _, _, rfl, hA2.mono (by omega)⟩
      · -- a lesser one: two numbers mixed
        refine ⟨_, rfl, _, _, rfl, rfl, .inr (by decide), _, rfl, _, _, rfl, rfl, _, _, rfl, rfl, .inr (by decide), _, _, rfl, rfl, .inl ⟨_, rfl, _, _, rfl, rfl, (by show (0 : Int) < 2147483647; decide), ?_⟩⟩
        refine ⟨_, rfl, _, _, rfl, rfl, .inr (by decide), _, rfl, _, _, rfl, rfl, .inl (by decide), _, _, rfl, rfl, _, _, rfl, rfl, .inl ⟨_, rfl, _, _, rfl, rfl, (by show (0 : Int) < 2147483629; decide), ?_⟩⟩
        have b1 : (ds.map V.int).length < sizeLine := by rw [List.length_map]; exact Nat.lt_of_le_of_lt (Nat.le_trans hA.len (by omega : _ ≤ 4000)) (by decide)
        refine ⟨_, rfl, .inl ⟨rfl, _, SqL.of hA.at_⟩, _, rfl, .inl ⟨_, rfl, _, _, rfl, rfl, (by show (0 : Int) < 65536; decide), p, _, _, rfl, rfl, hA.at_, b1, ?_⟩⟩
        have hB := hA.more hp (z := (((r * 48271 + (0 + (i : Int) + 1) * 69621) % 2147483647 * 16807 + 11 * (0 + (i : Int)) + 5) % 2147483629) % 65536) (Int.emod_nonneg _ (by decide)) (Int.emod_lt_of_pos _ (by decide))
        have b2 : ((ds ++ [(((r * 48271 + (0 + (i : Int) + 1) * 69621) % 2147483647 * 16807 + 11 * (0 + (i : Int)) + 5) % 2147483629) % 65536]).map V.int).length < sizeLine := by rw [List.length_map]; exact Nat.lt_of_le_of_lt (Nat.le_trans hB.len (by omega : _ ≤ 4000)) (by decide)
        refine ⟨_, rfl, .inl ⟨rfl, _, SqL.of hB.at_⟩, _, rfl, _, _, rfl, rfl, (by constructor <;> decide), .inl ⟨_, rfl, _, _, rfl, rfl, (by show (0 : Int) < 32768; decide), p, _, _, rfl, rfl, hB.at_, b2, ?_⟩⟩
        exact ⟨_, _, _, _, _, rfl, (hB.more hp (z := (((r * 48271 + (0 + (i : Int) + 1) * 69621) % 2147483647 * 16807 + 11 * (0 + (i : Int)) + 5) % 2147483629) / 65536 % 32768) (Int.emod_nonneg _ (by decide)) (by have := Int.emod_lt_of_pos ((((r * 48271 + (0 + (i : Int) + 1) * 69621) % 2147483647 * 16807 + 11 * (0 + (i : Int)) + 5) % 2147483629) / 65536) (show (0 : Int) < 32768 by decide); omega)).mono (by omega)⟩
    · obtain ⟨ds, y2, y3, y4, y5, rfl, hA⟩ := hW
      exact ⟨_, rfl, q p ds H' hA.sm hp hA.at_ ⟨Nat.le_trans hA.len (by omega), hA.all⟩⟩
/-- a house drawn -/
def spHouse (K : PySem.W.Frag) : Sp := fun vs H Q _ => ∃ (a : Addr) (ns : List Int) (k : Int) (many most : Nat), vs = [.ref a, .int k, .int many, .int most] ∧ SqL K H a (ns.map V.int) ∧ Dr ns ∧ 0 ≤ k ∧ k < 10000 ∧ many ≤ 8 ∧ most ≤ 40 ∧
  ∀ (p : Addr) (L : PL) (H' : Hp), Same H H' → H p = none → H' p = some (.lst (refs L)) → PairsAt K H' L → L.length ≤ many → IsHs most (L.map (·.2)) → Q (.ref p) H'
/-- the house so far -/
structure HsSo (K : PySem.W.Frag) (H H' : Hp) (p : Addr) (i most : Nat) (num : Int) (L : PL) : Prop where
  sm : Same H H'
  at_ : H' p = some (.lst (refs L))
  ps : PairsAt K H' L
  len : L.length = i
  hs : IsHs most (L.map (·.2))
  lt : ∀ q ∈ L, q.2.1 < num
  n0 : 0 ≤ num
  n1 : num ≤ 3 + 9 * (i : Int)
theorem HsSo.same {H H' H2 : Hp} {p : Addr} {i most : Nat} {num : Int} {L : PL} (h : HsSo K H H' p i most num L) (e : Same H' H2) : HsSo K H H2 p i most num L :=
  ⟨h.sm.trans e, e _ _ h.at_, h.ps.same e, h.len, h.hs, h.lt, h.n0, h.n1⟩
theorem hs_snoc {m : Nat} {h : List (Int × Str)} (a : IsHs m h) {n : Int} {z : Str} (lt : ∀ q ∈ h, q.1 < n) (n0 : 0 ≤ n) (n1 : n ≤ 99) (hz : IsLet z) (hl : z.length ≤ m) : IsHs m (h ++ [(n, z)]) := by
  refine ⟨?_, fun q hq => ?_, fun q hq => ?_⟩
  · rw [List.map_append, List.pairwise_append]
    refine ⟨a.asc, by simp, fun x hx y hy => ?_⟩
    obtain ⟨q, hq, rfl⟩ := List.mem_map.mp hx
    simp at hy
    subst hy
    exact lt q hq
  · rcases List.mem_append.mp hq with m1 | m1
    · exact a.num q m1
    · rw [List.mem_singleton.mp m1]; exact ⟨n0, n1⟩
  · rcases List.mem_append.mp hq with m1 | m1
    · exact a.txt q m1
    · rw [List.mem_singleton.mp m1]; exact ⟨hz, hl⟩
theorem sc__law_house : FnScope ["draws", "k", "many", "most", "house", "number", "n", "text"] ["draws", "k", "many", "most"] (defScope s__law_house) := ⟨rfl, rfl, rfl, by decide +kernel, rfl, by decide +kernel, by decide +kernel⟩
theorem ok__law_house (T : Txt K mg ea) (c__law_mix : Cl P w K mg base 1 "_law_mix" (spDraw K)) (c__law_text : Cl P w K mg base 2 "_law_text" (spText K)) : Cl P w K mg base 3 "_law_house" (spHouse K) := by
  have nd := sc__law_house.nd
  refine cl_of T.d__law_house sc__law_house (fun vs H Q E h => ?_) (fun f cdv A outer s H vs Q E hr h => ?_)
  · obtain ⟨a, ns, k, many, most, rfl, _⟩ := h
    rfl
  · obtain ⟨a, ns, k, many, most, rfl, hS, hD, h0, h1, hm, ho, q⟩ := h
    refine ⟨_, (pss_cons (ps_set (i := 4) nd rfl (.inl rfl) (pe_lst pa_nil))
      (pss_cons (ps_set (i := 5) nd rfl (.inl rfl) (C8.pe_c c__law_mix hr (by decide) (by rfl) (pa_cons (pv 0) (pa_cons (pv 1) (pa_cons pe_int pa_nil)))))
      (pss_cons (ps_for PassesOwn.never rfl (pi_range1 rfl T.b_range (pa_cons (C8.pe_c c__law_mix hr (by decide) (by rfl) (pa_cons (pv 0) (pa_cons (pe_op op_add (pv 1) pe_int) (pa_cons (pe_op op_add (pv 2) pe_int) pa_nil)))) pa_nil)) (pg_name (i := 6) nd rfl (.inl rfl))
        (pss_cons (ps_set (i := 7) nd rfl (.inl rfl) (C8.pe_c c__law_text hr (by decide) (by rfl) (pa_cons (pv 0) (pa_cons (pe_op op_add (pe_op op_add (pv 1) pe_int) (pe_op op_mul pe_int (pv 6))) (pa_cons (pv 3) pa_nil)))))
          (C8.pss_cut (ps_if (PW.pt (pw_and (pt_cmpR op_gt (pv 6) pe_int (nomark _)) (pw_and1 (pt_cmpR op_eq (C8.pe_c c__law_mix hr (by decide) (by rfl) (pa_cons (pv 0) (pa_cons (pe_op op_add (pe_op op_add (pv 1) pe_int) (pv 6)) (pa_cons pe_int pa_nil)))) pe_int (nomark _)))))
            (pss_one (ps_set (i := 7) nd rfl (.inl rfl) (pe_ix (ixt (K := K)) (pe_ix (ixl (K := K)) (pv 4) (pe_op op_sub (pv 6) pe_int) (fun _ _ => rfl)) pe_int (fun _ _ => rfl))))
            pss_nil)
          (pss_cons (ps_expr (pe_bm PySem.F.plainAttrs_list PySem.F.slot_list_append PySem.F.type_list_append mt_append (pv 4) (pa_cons (pe_tup (pa_cons (pv 5) (pa_cons (pv 7) pa_nil))) pa_nil)))
          (pss_one (ps_set (i := 5) nd rfl (.inl rfl) (pe_op op_add (pe_op op_add (pv 5) pe_int) (C8.pe_c c__law_mix hr (by decide) (by rfl) (pa_cons (pv 0) (pa_cons (pe_op op_add (pe_op op_add (pv 1) pe_int) (pv 6)) (pa_cons pe_int pa_nil)))))))))))
      (pss_one (ps_ret (pv 4)))))), ?_⟩
    refine ⟨Nat.zero_le _, fun p hp => ?_⟩
    have sm0 : Same H (upd H p (.lst [])) := same_new hp
    refine ⟨_, rfl, _, rfl, a, ns, k, 4, rfl, sm0.seq hS, hD, by omega, by omega, by omega, fun num u0 u1 => ?_⟩
    refine ⟨_, rfl, _, rfl, _, _, rfl, rfl, _, rfl, _, _, rfl, rfl, a, ns, k + 1, (many : Int) + 1, rfl, sm0.seq hS, hD, by omega, by omega, by omega, fun r r0 r1 => ?_⟩
    refine ⟨r, rfl, by omega, by omega, ?_⟩
    refine for_range (lo := 0) (n := r.toNat) (fun i σ H' => ∃ (L : PL) (num : Int) (y6 y7 : Option V), σ = [some (.ref a), some (.int k), some (.int many), some (.int most), some (.ref p), some (.int num), y6, y7] ∧ HsSo K H H' p i most num L)
      ⟨[], num, none, none, rfl, sm0, upd_same, (fun q hq => by cases hq), rfl, ⟨List.Pairwise.nil, (fun q hq => by cases hq), (fun q hq => by cases hq)⟩, (fun q hq => by cases hq), u0, by omega⟩ (fun i σ H' hi hW => ?_) (fun σ H' hW => ?_)
    · obtain ⟨L, num, y6, y7, rfl, hA⟩ := hW
      refine ⟨_, rfl, _, rfl, _, _, rfl, rfl, _, rfl, _, _, rfl, rfl, .inl (by decide), _, _, rfl, rfl, _, rfl, a, ns, k + 5 + 11 * (0 + (i : Int)), most, rfl, hA.sm.seq hS, hD, by omega, by omega, by omega, fun z H2 sm2 hz hl => ?_⟩
      have hA2 := hA.same sm2
      refine ⟨fun σ H3 => H3 = H2 ∧ ∃ x : Str, IsLet x ∧ x.length ≤ most ∧ σ = [some (.ref a), some (.int k), some (.int many), some (.int most), some (.ref p), some (.int num), some (.int (0 + (i : Int))), some (.str x)], ?_, ?_⟩
      · refine ⟨_, rfl, _, _, rfl, rfl, _, rfl, ite2 (fun e => ?_) (fun e => iteF ⟨rfl, z, hz, hl, rfl⟩)⟩
        have e' := of_decide_eq_true e
        refine ⟨_, rfl, _, rfl, _, _, rfl, rfl, _, rfl, _, _, rfl, rfl, a, ns, k + 3 + (0 + (i : Int)), 5, rfl, hA2.sm.seq hS, hD, by omega, by omega, by omega, fun r5 _ _ => ?_⟩
        refine ⟨rfl, _, rfl, ite2 (fun e2 => ?_) (fun e2 => ⟨rfl, z, hz, hl, rfl⟩)⟩
        obtain ⟨t, ht, hm2⟩ := at_map (fun q : Addr × Int × Str => V.ref q.1) (xs := L) (i := (0 + (i : Int)) - 1) (by omega) (by have := hA.len; omega)
        refine ⟨_, rfl, _, rfl, _, _, rfl, rfl, p, _, _, _, rfl, rfl, SqL.of hA2.at_, ht, _, _, _, _, rfl, rfl, hA2.ps t hm2, (show atI [V.int t.2.1, V.str t.2.2] 1 = some (.str t.2.2) from rfl), rfl, t.2.2, ?_⟩
        have := hA.hs.txt t.2 (List.mem_map_of_mem hm2)
        exact ⟨this.1, this.2, rfl⟩
      · rintro σ' H3 ⟨rfl, x, hx, hxl, rfl⟩
        refine ⟨_, rfl, .inl ⟨rfl, _, SqL.of hA2.at_⟩, _, rfl, _, rfl, (by show 2 ≤ sizeLine; decide), fun t ht => ?_⟩
        have pt : p ≠ t := ne_of_none hA2.at_ ht
        have at2 : (upd H3 t (.tup [.int num, .str x])) p = some (.lst (refs L)) := by rw [upd_ne pt]; exact hA2.at_
        refine ⟨p, _, _, rfl, rfl, at2, ?_, ?_⟩
        · show (L.map _).length < sizeLine
          rw [List.length_map, hA2.len]; exact Nat.lt_of_le_of_lt (by omega : i ≤ 1000) (by decide)
        have sm3 : Same H3 (upd H3 t (.tup [.int num, .str x])) := same_new ht
        have smp : ∀ o, Same H (upd (upd H3 t (.tup [.int num, .str x])) p o) := fun o => same_mut (hA2.sm.trans sm3) hp
        refine ⟨_, rfl, _, _, rfl, rfl, _, rfl, _, rfl, _, _, rfl, rfl, _, rfl, _, _, rfl, rfl, a, ns, k + 4 + (0 + (i : Int)), 9, rfl, (smp _).seq hS, hD, by omega, by omega, by omega, fun g g0 g1 => ?_⟩
        have n0 := hA.n0
        have n1 := hA.n1
        refine ⟨_, _, rfl, rfl, L ++ [(t, num, x)], _, _, _, rfl, smp _, ?_, ?_, ?_, ?_, ?_, ?_, ?_⟩
        · rw [upd_same]; show _ = some (HO.lst (List.map _ _)); rw [List.map_append]; rfl
        · intro q hq
          have nq : ∀ {b : Addr} {xs : List V}, SqT K (upd H3 t (.tup [.int num, .str x])) b xs → SqT K (upd (upd H3 t (.tup [.int num, .str x])) p (.lst (refs L ++ [.ref t]))) b xs := fun {b xs} h => by
            rcases h with (h | ⟨o, h⟩) | h
            · exact .inl (.inl (by rw [upd_ne (fun z => by rw [z, at2] at h; cases h)]; exact h))
            · exact .inl (.inr ⟨o, by rw [upd_ne (fun z => by rw [z, at2] at h; cases h)]; exact h⟩)
            · exact .inr h
          rcases List.mem_append.mp hq with m1 | m1
          · exact nq (same_tup sm3 (hA2.ps q m1))
          · rw [List.mem_singleton.mp m1]; exact nq (.inl (.inl upd_same))
        · rw [List.length_append, hA.len]; rfl
        · rw [List.map_append]
          exact hs_snoc hA.hs (fun q hq => by obtain ⟨y, hy, rfl⟩ := List.mem_map.mp hq; exact hA.lt y hy) n0 (by omega) hx hxl
        · intro q hq
          rcases List.mem_append.mp hq with m1 | m1
          · have := hA.lt q m1; omega
          · rw [List.mem_singleton.mp m1]; show num < _; omega
        · omega
        · omega
    · obtain ⟨L, num, y6, y7, rfl, hA⟩ := hW
      exact ⟨_, rfl, q p L H' hA.sm hp hA.at_ hA.ps (by have := hA.len; omega) hA.hs⟩
end

end SH
set_option Elab.async false
set_option linter.all false
set_option maxRecDepth 100000
set_option maxHeartbeats 4000000
namespace SH
open PySem PySem.Spec PyProof.Rows L2
theorem atI_end {α : Type} {xs : List α} {x : α} (n : xs ≠ []) (h : xs.getLast n = x) : atI xs (-1) = some x := by
  have e := List.dropLast_concat_getLast n
  rw [← e, h]
  exact atI_last _ _
theorem take_drop_cut {z : Str} {a b : Nat} (h1 : a ≤ b) (h2 : b ≤ z.length) : TL.tl (cutS z (some (a : Int)) (some (b : Int))) = ((TL.tl z).take b).drop a := by
  show (z.cps.toList.drop (HT.sIx z.length 0 (some (a : Int)))).take (HT.sIx z.length z.length (some (b : Int)) - HT.sIx z.length 0 (some (a : Int))) = _
  rw [HT.sIx_nat, HT.sIx_nat, Nat.min_eq_left h2, Nat.min_eq_left (Nat.le_trans h1 h2), List.drop_take]
def hsOf (L : PL) : List (Int × Sam.Wd) := L.map fun q => (q.2.1, TL.tl q.2.2)
/-- the stretches of a text, one for each start and stop -/
def wordsOf (t : Sam.Wd) : List Sam.Wd := (List.range t.length).flatMap fun a => (List.range (t.length - a)).map fun d => (t.drop a).take (d + 1)
theorem mem_words {t w : Sam.Wd} : w ∈ wordsOf t ↔ w ≠ [] ∧ ∃ x y, t = x ++ w ++ y := by
  unfold wordsOf
  rw [List.mem_flatMap]
  constructor
  · rintro ⟨a, ha, h⟩
    obtain ⟨d, hd, rfl⟩ := List.mem_map.mp h
    have ha := List.mem_range.mp ha
    have hd := List.mem_range.mp hd
    refine ⟨fun z => ?_, t.take a, (t.drop a).drop (d + 1), ?_⟩
    · have := congrArg List.length z
      rw [List.length_take, List.length_drop, List.length_nil] at this
      omega
    · rw [List.append_assoc, List.take_append_drop, List.take_append_drop]
  · rintro ⟨n, x, y, e⟩
    have hw : 0 < w.length := by
      cases w with
      | nil => exact absurd rfl n
      | cons a b => exact Nat.succ_pos _
    have hl : t.length = x.length + w.length + y.length := by rw [e]; simp [Nat.add_assoc]
    refine ⟨x.length, List.mem_range.mpr (by omega), List.mem_map.mpr ⟨w.length - 1, List.mem_range.mpr (by omega), ?_⟩⟩
    rw [show w.length - 1 + 1 = w.length by omega, e, List.append_assoc, List.drop_left' rfl, List.take_left' rfl]
/-- two words weakly by size, then as texts -/
theorem not_nsLt {u v : Str} (h : ¬ nsLt ((v.length : Int), v) ((u.length : Int), u)) : ¬ Sam.slx (TL.tl v) (TL.tl u) := by
  rintro (q | ⟨e, q⟩)
  · rw [← TL.len_tl, ← TL.len_tl] at q
    exact h (.inl (by show (v.length : Int) < (u.length : Int); omega))
  · rw [← TL.len_tl, ← TL.len_tl] at e
    exact h (.inr ⟨by show (v.length : Int) = (u.length : Int); omega, q⟩)
theorem str_S (z : Str) : V.str (SX.S (TL.tl z)) = V.str z := congrArg V.str (TL.mk_tl z)
theorem last_max {os : List Sam.Wd} (h : os.Pairwise Sam.slx) (n : os ≠ []) : ∀ x ∈ os, x = os.getLast n ∨ Sam.slx x (os.getLast n) := fun x hx => by
  have e := List.dropLast_concat_getLast n
  rw [← e] at hx h
  rcases List.mem_append.mp hx with m | m
  · exact .inr ((List.pairwise_append.mp h).2.2 x m _ (List.mem_singleton.mpr rfl))
  · exact .inl (List.mem_singleton.mp m)
section
variable {P : Program} {w : World} {K : PySem.W.Frag} {mg : Str → Option Value} {base : Heap} {ea : Ea}
theorem szB {n : Nat} (h : n ≤ 100000) : n < sizeLine := Nat.lt_of_le_of_lt h (by decide)
def strsV (ws : List Sam.Wd) : List V := ws.map fun w => V.str (SX.S w)
/-- all stretches, by size, then as texts, each once -/
def spWords (K : PySem.W.Frag) : Sp := fun vs H Q _ => ∃ (h : Addr) (L : PL), vs = [.ref h] ∧ HsAt K H h L ∧ L.length ≤ 8 ∧ (∀ q ∈ L, q.2.2.length ≤ 40) ∧
  ∀ H' l ws, Same H H' → H l = none → H' l = some (.lst (strsV ws)) → ws.Pairwise Sam.slx → ws.length ≤ 20000 → (∀ w, w ∈ ws ↔ w ≠ [] ∧ ∃ t ∈ (hsOf L).map (·.2), ∃ x y, t = x ++ w ++ y) → Q (.ref l) H'
theorem sc__law_words : FnScope ["house", "words", "number", "text", "start", "stop", "out", "size", "word"] ["house"] (defScope s__law_words) := ⟨rfl, rfl, rfl, by decide +kernel, rfl, by decide +kernel, by decide +kernel⟩
theorem ok__law_words (T : Txt K mg ea) : Cl P w K mg base 1 "_law_words" (spWords K) := by
  have nd := sc__law_words.nd
  refine cl_of T.d__law_words sc__law_words (fun vs H Q E h => ?_) (fun f cdv A outer s0 H vs Q E hr h => ?_)
  · obtain ⟨hh, L, rfl, _⟩ := h
    rfl
  · obtain ⟨hh, L, rfl, hA, hl, ht, q⟩ := h
    refine ⟨_, (pss_cons (ps_set (i := 1) nd rfl (.inl rfl) (pe_lst pa_nil))
      (pss_cons (ps_for PassesOwn.never rfl (pi_listK (K := K) (pv 0)) (pg_tup rfl (pgs_cons (pg_name (i := 2) nd rfl (.inl rfl)) (pgs_cons (pg_name (i := 3) nd rfl (.inl rfl)) pgs_nil)))
        (pss_one (ps_for PassesOwn.never rfl (pi_range1 rfl T.b_range (pa_cons (pe_callB call_len_str (by rfl) T.b_len PySem.boot_len (pa_cons (pv 3) pa_nil)) pa_nil)) (pg_name (i := 4) nd rfl (.inl rfl))
            (pss_one (ps_for PassesOwn.never rfl (pi_range2 rfl T.b_range (pa_cons (pe_op op_add (pv 4) pe_int) (pa_cons (pe_op op_add (pe_callB call_len_str (by rfl) T.b_len PySem.boot_len (pa_cons (pv 3) pa_nil)) pe_int) pa_nil))) (pg_name (i := 5) nd rfl (.inl rfl))
                (pss_one (ps_expr (pe_bm PySem.F.plainAttrs_list PySem.F.slot_list_append PySem.F.type_list_append mt_append (pv 1) (pa_cons (pe_tup (pa_cons (pe_op op_sub (pv 5) (pv 4)) (pa_cons (pe_slice sl_str (pv 3) (po_some (pv 4)) (po_some (pv 5))) pa_nil))) pa_nil)))))))))
      (pss_cons (ps_set (i := 6) nd rfl (.inl rfl) (pe_lst pa_nil))
      (pss_cons (ps_for PassesOwn.never rfl (pi_listK (K := K) (pe_callB cr_sortNS (by rfl) T.b_sorted (by decide +kernel) (pa_cons (pv 1) pa_nil))) (pg_tup rfl (pgs_cons (pg_name (i := 7) nd rfl (.inl rfl)) (pgs_cons (pg_name (i := 8) nd rfl (.inl rfl)) pgs_nil)))
        (pss_one (ps_if (PW.pt (pw_or (pt_cmpR op_eq (pe_callB call_len_seq (by rfl) T.b_len PySem.boot_len (pa_cons (pv 6) pa_nil)) pe_int (nomark _)) (pw_or1 (pt_cmpR op_ne (pe_ix (ixl (K := K)) (pv 6) (pe_un un_neg pe_int) (fun _ _ => rfl)) (pv 8) (nomark _)))))
            (pss_one (ps_expr (pe_bm PySem.F.plainAttrs_list PySem.F.slot_list_append PySem.F.type_list_append mt_append (pv 6) (pa_cons (pv 8) pa_nil))))
            pss_nil)))
      (pss_one (ps_ret (pv 6))))))), ?_⟩
    have rl : (refs L).length = L.length := List.length_map ..
    have sz : ∀ {n : Nat}, n ≤ 1000 → n ≤ sizeLine := fun h => Nat.le_trans h (by decide)
    refine ⟨Nat.zero_le _, fun wl nwl => ?_⟩
    refine ⟨_, rfl, hh, rfl, ⟨_, (same_new nwl).seq hA.1⟩, ?_⟩
    refine for_list (K := K) (a := hh) (xs := refs L) (fun i σ H' => ∃ (L2 : PL) (y2 y3 y4 y5 : Option V), σ = [some (.ref hh), some (.ref wl), y2, y3, y4, y5, none, none, none] ∧ Same H H' ∧ H' wl = some (.lst (refs L2)) ∧ PairsAt K H' L2 ∧ (L2.map fun q => TL.tl q.2.2) = ((hsOf L).take i).flatMap (fun q => wordsOf q.2) ∧ (∀ q ∈ L2, q.2.1 = (q.2.2.length : Int)) ∧ L2.length ≤ 1700 * i)
      ⟨[], none, none, none, none, rfl, same_new nwl, upd_same, (fun q m => nomatch m), rfl, (fun q m => nomatch m), Nat.le_refl _⟩ (fun i σ H' _ hW => ?_) (fun i x σ H' hx hW => ?_) (fun σ H' hW => ?_)
    · obtain ⟨L2, y2, y3, y4, y5, rfl, sm, _⟩ := hW
      exact sm.seq hA.1
    · obtain ⟨L2, y2, y3, y4, y5, rfl, sm, atw, pw, ew, ln, l2⟩ := hW
      obtain ⟨t, et, tm, rfl⟩ := refs_get hx
      have iL : i < L.length := (List.getElem?_eq_some_iff.mp et).1
      have t40 := ht t tm
      have ehs : (hsOf L)[i]? = some (t.2.1, TL.tl t.2.2) := by unfold hsOf; rw [List.getElem?_map, et]; rfl
      have tk : (hsOf L).take (i + 1) = (hsOf L).take i ++ [(t.2.1, TL.tl t.2.2)] := by rw [List.take_add_one, ehs]; rfl
      have lt : (TL.tl t.2.2).length = t.2.2.length := (TL.len_tl _).symm
      refine ⟨_, _, rfl, same_tup sm (hA.2 t tm), rfl, _, _, rfl, _, _, rfl, rfl, ?_⟩
      refine ⟨_, rfl, t.2.2, rfl, sz (by omega), _, rfl, by show -(2 ^ 62) ≤ (t.2.2.length : Int); omega, by show (t.2.2.length : Int) < 2 ^ 62; omega, ?_⟩
      have en : ((t.2.2.length : Int)).toNat = t.2.2.length := by omega
      show ∃ W, _
      rw [en]
      refine for_range (lo := 0) (n := t.2.2.length) (fun a σ H' => ∃ (L2 : PL) (y4 y5 : Option V), σ = [some (.ref hh), some (.ref wl), some (.int t.2.1), some (.str t.2.2), y4, y5, none, none, none] ∧ Same H H' ∧ H' wl = some (.lst (refs L2)) ∧ PairsAt K H' L2 ∧ (L2.map fun q => TL.tl q.2.2) = ((hsOf L).take i).flatMap (fun q => wordsOf q.2) ++ (List.range a).flatMap (fun a => (List.range (t.2.2.length - a)).map fun d => ((TL.tl t.2.2).drop a).take (d + 1)) ∧ (∀ q ∈ L2, q.2.1 = (q.2.2.length : Int)) ∧ L2.length ≤ 1700 * i + 41 * a)
        ⟨L2, y4, y5, rfl, sm, atw, pw, by rw [ew]; simp, ln, l2⟩ (fun a σ H' ha hW => ?_) (fun σ H' hW => ?_)
      · obtain ⟨L2, y4, y5, rfl, sm, atw, pw, ew, ln, l2⟩ := hW
        refine ⟨_, rfl, _, _, rfl, rfl, _, rfl, t.2.2, rfl, sz (by omega), _, _, rfl, rfl, _, _, rfl, ⟨by show -(2 ^ 62) ≤ (0 : Int) + (a : Int) + 1; omega, by show (0 : Int) + (a : Int) + 1 < 2 ^ 62; omega, by show -(2 ^ 62) ≤ (t.2.2.length : Int) + 1; omega, by show (t.2.2.length : Int) + 1 < 2 ^ 62; omega⟩, ?_⟩
        have en2 : ((t.2.2.length : Int) + 1 - ((0 : Int) + (a : Int) + 1)).toNat = t.2.2.length - a := by omega
        show ∃ W, _
        rw [en2]
        refine for_range (lo := (0 : Int) + (a : Int) + 1) (n := t.2.2.length - a) (fun d σ H' => ∃ (L2 : PL) (y5 : Option V), σ = [some (.ref hh), some (.ref wl), some (.int t.2.1), some (.str t.2.2), some (.int (0 + (a : Int))), y5, none, none, none] ∧ Same H H' ∧ H' wl = some (.lst (refs L2)) ∧ PairsAt K H' L2 ∧ (L2.map fun q => TL.tl q.2.2) = ((hsOf L).take i).flatMap (fun q => wordsOf q.2) ++ (List.range a).flatMap (fun a => (List.range (t.2.2.length - a)).map fun d => ((TL.tl t.2.2).drop a).take (d + 1)) ++ (List.range d).map (fun d => ((TL.tl t.2.2).drop a).take (d + 1)) ∧ (∀ q ∈ L2, q.2.1 = (q.2.2.length : Int)) ∧ L2.length ≤ 1700 * i + 41 * a + d)
          ⟨L2, y5, rfl, sm, atw, pw, by rw [ew]; simp, ln, l2⟩ (fun d σ H' hd hW => ?_) (fun σ H' hW => ?_)
        · obtain ⟨L2, y5, rfl, sm, atw, pw, ew, ln, l2⟩ := hW
          have e1 : (0 : Int) + (a : Int) = (a : Int) := by omega
          have e2 : (0 : Int) + (a : Int) + 1 + (d : Int) = ((a + 1 + d : Nat) : Int) := by omega
          have cut : TL.tl (cutS t.2.2 (some ((0 : Int) + (a : Int))) (some ((0 : Int) + (a : Int) + 1 + (d : Int)))) = ((TL.tl t.2.2).drop a).take (d + 1) := by
            rw [e2, e1, take_drop_cut (by omega) (by omega), List.drop_take]
            congr 1
            omega
          refine ⟨_, rfl, .inl ⟨rfl, _, SqL.of atw⟩, _, rfl, _, rfl, _, _, rfl, rfl, _, rfl, _, rfl, _, rfl, _, rfl, _, rfl, t.2.2, rfl, sz (by omega), (by show 2 ≤ sizeLine; decide), fun tt ntt => ?_⟩
          have s7 := same_new (o := .tup [.int ((0 : Int) + (a : Int) + 1 + (d : Int) - ((0 : Int) + (a : Int))), .str (cutS t.2.2 (some ((0 : Int) + (a : Int))) (some ((0 : Int) + (a : Int) + 1 + (d : Int))))]) ntt
          have wtt : wl ≠ tt := fun z => by rw [← z, atw] at ntt; cases ntt
          refine ⟨wl, _, _, rfl, rfl, s7 _ _ atw, szB (by rw [refs, List.length_map]; omega), ?_⟩
          have el : (0 : Int) + (a : Int) + 1 + (d : Int) - ((0 : Int) + (a : Int)) = ((cutS t.2.2 (some ((0 : Int) + (a : Int))) (some ((0 : Int) + (a : Int) + 1 + (d : Int)))).length : Int) := by
            rw [TL.len_tl, cut, List.length_take, List.length_drop, lt]
            omega
          refine ⟨L2 ++ [(tt, (0 : Int) + (a : Int) + 1 + (d : Int) - ((0 : Int) + (a : Int)), cutS t.2.2 (some ((0 : Int) + (a : Int))) (some ((0 : Int) + (a : Int) + 1 + (d : Int))))], _, rfl, same_mut (sm.trans s7) nwl, ?_, fun q hq => ?_, ?_, fun q hq => ?_, ?_⟩
          · rw [upd_same]
            unfold refs
            rw [List.map_append]
            rfl
          · rcases List.mem_append.mp hq with m | m
            · have h := same_tup s7 (pw q m)
              rcases h with (h | ⟨o, h⟩) | h
              · exact .inl (.inl (by rw [upd_ne (fun z => by rw [z, s7 _ _ atw] at h; cases h)]; exact h))
              · exact .inl (.inr ⟨o, by rw [upd_ne (fun z => by rw [z, s7 _ _ atw] at h; cases h)]; exact h⟩)
              · exact .inr h
            · rw [List.mem_singleton.mp m]
              exact .inl (.inl (by rw [upd_ne wtt.symm]; exact upd_same))
          · rw [List.map_append, ew, List.range_succ, List.map_append, ← List.append_assoc]
            show _ ++ [TL.tl (cutS t.2.2 _ _)] = _ ++ [_]
            rw [cut]
          · rcases List.mem_append.mp hq with m | m
            · exact ln q m
            · rw [List.mem_singleton.mp m]; exact el
          · rw [List.length_append]
            show L2.length + 1 ≤ _
            omega
        · obtain ⟨L2, y5, rfl, sm, atw, pw, ew, ln, l2⟩ := hW
          refine ⟨L2, _, _, rfl, sm, atw, pw, ?_, ln, by omega⟩
          rw [ew, List.range_succ, List.flatMap_append, List.append_assoc]
          simp
      · obtain ⟨L2, y4, y5, rfl, sm, atw, pw, ew, ln, l2⟩ := hW
        refine ⟨L2, _, _, _, _, rfl, sm, atw, pw, ?_, ln, by omega⟩
        rw [ew, tk, List.flatMap_append]
        unfold wordsOf
        rw [lt.symm]
        simp
    · obtain ⟨L2, y2, y3, y4, y5, rfl, sm, atw, pw, ew, ln, l2⟩ := hW
      have hsl : (hsOf L).length = L.length := List.length_map ..
      rw [rl, List.take_of_length_le (by omega)] at ew
      rw [rl] at l2
      -- sorted, each once
      refine ⟨Nat.zero_le _, fun ol nol => ?_⟩
      have sO := same_new (o := .lst []) nol
      have wol : wl ≠ ol := ne_of_none atw nol
      refine ⟨_, rfl, wl, L2, rfl, ⟨SqL.of (sO _ _ atw), fun q m => same_tup sO (pw q m)⟩, fun L3 p perm srt np => ?_⟩
      have sP := sO.trans (same_new (o := .lst (refs L3)) np)
      have atO : (upd (upd H' ol (.lst [])) p (.lst (refs L3))) ol = some (.lst (strsV [])) := same_new np _ _ upd_same
      have atP : (upd (upd H' ol (.lst [])) p (.lst (refs L3))) p = some (.lst (refs L3)) := upd_same
      have pw3 : PairsAt K (upd (upd H' ol (.lst [])) p (.lst (refs L3))) L3 := fun q m => same_tup sP (pw q (perm.mem_iff.mp m))
      have pol : p ≠ ol := fun z => by rw [z, upd_same] at np; cases np
      have ln3 : ∀ q ∈ L3, q.2.1 = (q.2.2.length : Int) := fun q m => ln q (perm.mem_iff.mp m)
      have l3 : L3.length = L2.length := perm.length_eq
      have nol0 := sm.free nol
      have sm3 : Same H (upd (upd H' ol (.lst [])) p (.lst (refs L3))) := sm.trans sP
      have order : ∀ i j (hi : i < L3.length) (hj : j < L3.length), i < j → ¬ Sam.slx (TL.tl L3[j].2.2) (TL.tl L3[i].2.2) := fun i j hi hj hij => by
        have h := List.pairwise_iff_getElem.mp srt i j hi hj hij
        refine not_nsLt ?_
        rw [← ln3 _ (List.getElem_mem hi), ← ln3 _ (List.getElem_mem hj)]
        exact h
      have rl3 : (refs L3).length = L3.length := List.length_map ..
      refine ⟨p, rfl, ⟨_, SqL.of atP⟩, ?_⟩
      generalize upd (upd H' ol (.lst [])) p (.lst (refs L3)) = HS at atO atP pw3 sm3 ⊢
      refine for_list (K := K) (a := p) (xs := refs L3) (fun i σ H' => ∃ (os : List Sam.Wd) (y2 y3 y4 y5 y7 y8 : Option V), σ = [some (.ref hh), some (.ref wl), y2, y3, y4, y5, some (.ref ol), y7, y8] ∧ (∀ b o, b ≠ ol → HS b = some o → H' b = some o) ∧ Same H H' ∧ H' ol = some (.lst (strsV os)) ∧ os.Pairwise Sam.slx ∧ os.length ≤ i ∧
        (∀ w, w ∈ os ↔ w ∈ (L3.take i).map fun q => TL.tl q.2.2) ∧ ∀ j (hj : j < L3.length), j + 1 = i → ∃ n : os ≠ [], os.getLast n = TL.tl L3[j].2.2)
        ⟨[], y2, y3, y4, y5, none, none, rfl, (fun b o _ h => h), sm3, atO, List.Pairwise.nil, Nat.le_refl _, (fun w => ⟨(fun m => nomatch m), fun m => by simp at m⟩), fun j hj e => by omega⟩ (fun i σ H' _ hW => ?_) (fun i x σ H' hx hW => ?_) (fun σ H' hW => ?_)
      · obtain ⟨os, y2, y3, y4, y5, y7, y8, rfl, b, _⟩ := hW
        exact SqL.of (b _ _ pol atP)
      · obtain ⟨os, y2, y3, y4, y5, y7, y8, rfl, bO, smH, ato, sos, osl, mos, los⟩ := hW
        have hi : i < L3.length := by
          have := (List.getElem?_eq_some_iff.mp hx).1
          omega
        have et : L3[i]? = some L3[i] := List.getElem?_eq_getElem hi
        have tm := List.getElem_mem hi
        have ord : ∀ j (hj : j < L3.length), j < i → ¬ Sam.slx (TL.tl L3[i].2.2) (TL.tl L3[j].2.2) := fun j hj hji => order j i hj hi hji
        have etk : ∀ k (hk : k < L3.length), k + 1 = i + 1 → TL.tl L3[k].2.2 = TL.tl L3[i].2.2 := fun k hk e => by
          have : k = i := by omega
          subst this
          rfl
        generalize L3[i] = t at et tm ord etk
        unfold refs at hx
        rw [List.getElem?_map, et] at hx
        have hx := Option.some.inj hx
        subst hx
        have tk : (L3.take (i + 1)).map (fun q => TL.tl q.2.2) = (L3.take i).map (fun q => TL.tl q.2.2) ++ [TL.tl t.2.2] := by rw [List.take_add_one, et, List.map_append]; rfl
        have ht3 : SqT K H' t.1 [.int t.2.1, .str t.2.2] := by
          rcases pw3 t tm with (h | ⟨o, h⟩) | h
          · exact .inl (.inl (bO _ _ (fun z => by have := atO; rw [← z, h] at this; cases this) h))
          · exact .inl (.inr ⟨o, bO _ _ (fun z => by have := atO; rw [← z, h] at this; cases this) h⟩)
          · exact .inr h
        refine ⟨_, _, rfl, ht3, rfl, _, _, rfl, _, _, rfl, rfl, ?_⟩
        have add : (∀ x ∈ os, Sam.slx x (TL.tl t.2.2)) → ∃ (os' : List Sam.Wd) (y2' y3' y4' y5' y7' y8' : Option V), [some (V.ref hh), some (V.ref wl), y2, y3, y4, y5, some (V.ref ol), some (V.int t.2.1), some (V.str t.2.2)] = [some (.ref hh), some (.ref wl), y2', y3', y4', y5', some (.ref ol), y7', y8'] ∧ (∀ b o, b ≠ ol → HS b = some o → (upd H' ol (.lst (strsV os ++ [.str t.2.2]))) b = some o) ∧ Same H (upd H' ol (.lst (strsV os ++ [.str t.2.2]))) ∧ (upd H' ol (.lst (strsV os ++ [.str t.2.2]))) ol = some (.lst (strsV os')) ∧ os'.Pairwise Sam.slx ∧ os'.length ≤ i + 1 ∧
            (∀ w, w ∈ os' ↔ w ∈ (L3.take (i + 1)).map fun q => TL.tl q.2.2) ∧ ∀ j (hj : j < L3.length), j + 1 = i + 1 → ∃ n : os' ≠ [], os'.getLast n = TL.tl L3[j].2.2 := fun h => by
          refine ⟨os ++ [TL.tl t.2.2], _, _, _, _, _, _, rfl, fun b o n e => by rw [upd_ne n]; exact bO b o n e, same_mut smH nol0, ?_, ?_, by rw [List.length_append]; show os.length + 1 ≤ i + 1; omega, fun w => ?_, fun j hj e => ⟨by simp, by rw [etk j hj e]; simp⟩⟩
          · rw [upd_same]
            unfold strsV
            rw [List.map_append]
            show _ = some (HO.lst (_ ++ [V.str (SX.S (TL.tl t.2.2))]))
            rw [str_S]
          · rw [List.pairwise_append]
            exact ⟨sos, by simp, fun x hx y hy => by rw [List.mem_singleton.mp hy]; exact h x hx⟩
          · rw [tk, List.mem_append, List.mem_append, mos]
        have sol : (strsV os).length = os.length := List.length_map ..
        have lt2 : (strsV os).length < sizeLine := szB (by rw [sol]; omega)
        refine ⟨_, rfl, ol, _, rfl, .inl (SqL.of ato), rfl, _, rfl, ite2 (fun e => ?_) (fun e => ?_)⟩
        · have o0 : os = [] := by
            have := V.int.inj (of_decide_eq_true e)
            rw [sol] at this
            exact List.eq_nil_of_length_eq_zero (by omega)
          refine ⟨_, rfl, .inl ⟨rfl, _, SqL.of ato⟩, _, rfl, ol, _, _, rfl, rfl, ato, lt2, ?_⟩
          exact add fun x hx => by rw [o0] at hx; cases hx
        · have n : os ≠ [] := fun z => e (decide_eq_true (by rw [z]; rfl))
          have i0 : 0 < i := by
            refine Nat.pos_of_ne_zero fun z => ?_
            subst z
            exact n (List.eq_nil_of_length_eq_zero (by omega))
          obtain ⟨_, lo⟩ := los (i - 1) (by omega) (by omega)
          have lastv : atI (strsV os) (-1) = some (.str (SX.S (os.getLast n))) := by
            have n2 : strsV os ≠ [] := fun z => n (List.map_eq_nil_iff.mp z)
            exact atI_end n2 (List.getLast_map (f := fun w => V.str (SX.S w)) n2)
          have nsl := ord (i - 1) (by omega) (by omega)
          rw [← lo] at nsl
          refine ⟨_, rfl, 1, rfl, ol, _, _, _, rfl, rfl, SqL.of ato, lastv, _, rfl, rfl, _, rfl, ite2 (fun e2 => ?_) (fun e2 => ?_)⟩
          · have wne : os.getLast n ≠ TL.tl t.2.2 := fun z => by
              rw [z, str_S] at e2
              simp at e2
            have sl : Sam.slx (os.getLast n) (TL.tl t.2.2) := by
              rcases Sam.slx_tot (os.getLast n) (TL.tl t.2.2) with h | h | h
              · exact h
              · exact absurd h wne
              · exact absurd h nsl
            refine ⟨_, rfl, .inl ⟨rfl, _, SqL.of ato⟩, _, rfl, ol, _, _, rfl, rfl, ato, lt2, ?_⟩
            exact add fun x hx => by
              rcases last_max sos n x hx with z | z
              · rw [z]; exact sl
              · exact Sam.slx_trans z sl
          · have weq : os.getLast n = TL.tl t.2.2 := by
              refine Classical.byContradiction fun z => e2 ?_
              have : ¬ V.str (SX.S (os.getLast n)) = V.str t.2.2 := fun y => z (by
                have := congrArg TL.tl (V.str.inj y)
                exact this)
              show (!decide _) = true
              rw [decide_eq_false this]
              rfl
            refine ⟨os, _, _, _, _, _, _, rfl, bO, smH, ato, sos, by omega, fun w => ?_, fun j hj ej => ⟨n, by rw [weq, etk j hj ej]⟩⟩
            rw [tk, List.mem_append, mos]
            refine ⟨.inl, fun h => h.elim id fun h => ?_⟩
            rw [List.mem_singleton.mp h, ← weq]
            exact (mos _).mp (List.getLast_mem n)
      · obtain ⟨os, y2, y3, y4, y5, y7, y8, rfl, bO, smH, ato, sos, osl, mos, los⟩ := hW
        rw [rl3] at osl mos
        rw [List.take_of_length_le (Nat.le_refl _)] at mos
        refine ⟨_, rfl, q H' ol os smH nol0 ato sos (by omega) fun w => ?_⟩
        rw [mos]
        have e1 : (w ∈ L3.map fun q => TL.tl q.2.2) ↔ (w ∈ L2.map fun q => TL.tl q.2.2) := (perm.map _).mem_iff
        rw [e1, ew, List.mem_flatMap]
        constructor
        · rintro ⟨y, hy, hw⟩
          obtain ⟨h1, h2⟩ := mem_words.mp hw
          exact ⟨h1, y.2, List.mem_map.mpr ⟨y, hy, rfl⟩, h2⟩
        · rintro ⟨h1, t, ht, h2⟩
          obtain ⟨y, hy, rfl⟩ := List.mem_map.mp ht
          exact ⟨y, hy, mem_words.mpr ⟨h1, h2⟩⟩
end

end SH
set_option Elab.async false
set_option linter.all false
set_option maxRecDepth 100000
set_option maxHeartbeats 4000000
namespace SH
open PySem PySem.Spec PyProof.Rows L2
def natV (l : List Nat) : List V := l.map fun (i : Nat) => V.int (i : Int)
theorem natV_app (l m : List Nat) : natV (l ++ m) = natV l ++ natV m := List.map_append ..
theorem natV_len (l : List Nat) : (natV l).length = l.length := List.length_map ..
theorem ixN_nat {n i : Nat} (h : i < n) : ixN n (i : Int) = some i := by
  unfold ixN
  rw [if_pos (by omega), if_pos (by omega)]
  simp
/-! links lead to lesser classes, edges to greater ones -/
theorem sz1000 {n : Nat} (h : n ≤ 2000) : n < sizeLine := Nat.lt_of_le_of_lt h (by decide)
/-- tuples of a number and a stop -/
abbrev PT := List (Addr × Int × Nat)
def prefs (R : PT) : List V := R.map fun q => .ref q.1
def PAt (H : Hp) (R : PT) : Prop := ∀ q ∈ R, H q.1 = some (.tup [.int q.2.1, .int (q.2.2 : Int)])
theorem PAt.same {H H' : Hp} {R : PT} (h : PAt H R) (s : Same H H') : PAt H' R := fun q m => s _ _ (h q m)
theorem PAt.setL {H : Hp} {R : PT} (h : PAt H R) {r : Addr} {xs ys : List V} (e : H r = some (.lst xs)) : PAt (upd H r (.lst ys)) R := fun q m => by
  rw [upd_ne (fun z => by have := h q m; rw [z, e] at this; cases this)]
  exact h q m
theorem prefs_app (R S : PT) : prefs (R ++ S) = prefs R ++ prefs S := List.map_append ..
theorem prefs_len (R : PT) : (prefs R).length = R.length := List.length_map ..
theorem ends_len (w t : Sam.Wd) : (Sam.endsIn w t).length ≤ t.length + 1 := by
  unfold Sam.endsIn
  refine Nat.le_trans (List.length_filter_le ..) ?_
  rw [List.length_range]
  exact Nat.le_refl _
theorem splc_len {w : Sam.Wd} : ∀ {hs : List (Int × Sam.Wd)}, (∀ q ∈ hs, q.2.length ≤ 40) → (Sam.plc hs w).length ≤ 41 * hs.length
  | [], _ => Nat.zero_le _
  | q :: r, h => by
    have i1 := splc_len (w := w) (hs := r) fun x m => h x (List.mem_cons_of_mem _ m)
    have i2 := ends_len w q.2
    have i3 := h q (List.mem_cons_self ..)
    show ((Sam.endsIn w q.2).map (fun k => (q.1, k)) ++ Sam.plc r w).length ≤ _
    rw [List.length_append, List.length_map, List.length_cons]
    omega
theorem inner_len {D : List Sam.Wd} {m : Nat} (h : ∀ x ∈ D, x.length ≤ m) {u : Sam.Wd} (i : Sam.Inner D u) : u.length ≤ m := by
  obtain ⟨t, mt, x, y, e⟩ := i
  have := h t mt
  rw [e] at this
  simp at this
  omega

/-- a house that a machine is built of -/
structure HouseOk (L : PL) : Prop where
  asc : (L.map (·.2.1)).Pairwise (· < ·)
  txt : ∀ q ∈ L, IsLet q.2.2 ∧ q.2.2.length ≤ 40
  few : L.length ≤ 8
  al : ∃ al : List Nat, al.length < 64 ∧ ∀ q ∈ L, ∀ c ∈ TL.tl q.2.2, c ∈ al
theorem houseOk_of {L : PL} {m : Nat} (h : IsHs m (L.map (·.2))) (hm : m ≤ 40) (hl : L.length ≤ 8) (hc : L.length * m < 64) : HouseOk L := by
  refine ⟨?_, fun q hq => ?_, hl, L.flatMap fun q => TL.tl q.2.2, ?_, fun q hq c hc => List.mem_flatMap.mpr ⟨q, hq, hc⟩⟩
  · have := h.asc
    rw [List.map_map] at this
    exact this
  · have := h.txt q.2 (List.mem_map_of_mem hq)
    exact ⟨this.1, by omega⟩
  · have key : ∀ l : PL, (∀ q ∈ l, q.2.2.length ≤ m) → (l.flatMap fun q => TL.tl q.2.2).length ≤ l.length * m := by
      intro l
      induction l with
      | nil => exact fun _ => Nat.zero_le _
      | cons x r ih =>
        intro k
        rw [List.flatMap_cons, List.length_append, List.length_cons, Nat.succ_mul, tlen]
        have := ih fun q hq => k q (List.mem_cons_of_mem _ hq)
        have := k x (List.mem_cons_self ..)
        omega
    exact Nat.lt_of_le_of_lt (key L fun q hq => (h.txt q.2 (List.mem_map_of_mem hq)).2) hc

section
variable {P : Program} {w : World} {K : PySem.W.Frag} {mg : Str → Option Value} {base : Heap} {ea : Ea}
def spStands : Sp := fun vs H Q _ => ∃ (z w : Str) (k : Nat), vs = [.str z, .str w, .int ((k : Int) - (w.length : Int))] ∧ z.length ≤ 1000 ∧ w.length ≤ 1000 ∧ k ≤ z.length ∧ ∀ H', Same H H' → Q (.bl ((TL.tl w).isSuffixOf ((TL.tl z).take k))) H'
theorem sc__law_stands : FnScope ["text", "word", "start"] ["text", "word", "start"] (defScope s__law_stands) := ⟨rfl, rfl, rfl, by decide +kernel, rfl, by decide +kernel, by decide +kernel⟩
theorem ok__law_stands (T : Txt K mg ea) : Cl P w K mg base 1 "_law_stands" spStands := by
  have nd := sc__law_stands.nd
  refine cl_of T.d__law_stands sc__law_stands (fun vs H Q E h => ?_) (fun f cdv A outer s0 H vs Q E hr h => ?_)
  · obtain ⟨z, w, k, rfl, _⟩ := h
    rfl
  · obtain ⟨z, w, k, rfl, zl, wl, hk, q⟩ := h
    refine ⟨_, (pss_one (ps_ret (pe_and (pe_cmpR op_le pe_int (pv 2) (nomark _)) (pe_and (pe_cmpR op_le (pe_op op_add (pv 2) (pe_callB call_len_str (by rfl) T.b_len PySem.boot_len (pa_cons (pv 1) pa_nil))) (pe_callB call_len_str (by rfl) T.b_len PySem.boot_len (pa_cons (pv 0) pa_nil)) (nomark _)) (pe_one (pe_cmpR op_eq (pe_slice sl_str (pv 0) (po_some (pv 2)) (po_some (pe_op op_add (pv 2) (pe_callB call_len_str (by rfl) T.b_len PySem.boot_len (pa_cons (pv 1) pa_nil))))) (pv 1) (nomark _))))))), ?_⟩
    have sz : ∀ {n : Nat}, n ≤ 1000 → n ≤ sizeLine := fun h => Nat.le_trans h (by decide)
    have q' := q H (Same.refl H)
    have lz : (TL.tl z).length = z.length := (TL.len_tl z).symm
    have lw : (TL.tl w).length = w.length := (TL.len_tl w).symm
    by_cases c : w.length ≤ k
    · have d0 : decide ((0 : Int) ≤ (k : Int) - (w.length : Int)) = true := decide_eq_true (by omega)
      have d1 : decide ((k : Int) - (w.length : Int) + (w.length : Int) ≤ (z.length : Int)) = true := decide_eq_true (by omega)
      have es : (k : Int) - (w.length : Int) = ((k - w.length : Nat) : Int) := by omega
      have ek : (k : Int) - (w.length : Int) + (w.length : Int) = (k : Int) := by omega
      have cut : TL.tl (cutS z (some ((k : Int) - (w.length : Int))) (some ((k : Int) - (w.length : Int) + (w.length : Int)))) = ((TL.tl z).take k).drop (k - w.length) := by
        rw [ek, es, take_drop_cut (by omega) hk]
      have tkl : ((TL.tl z).take k).length = k := by rw [List.length_take]; omega
      have eqv : decide (V.str (cutS z (some ((k : Int) - (w.length : Int))) (some ((k : Int) - (w.length : Int) + (w.length : Int)))) = V.str w) = (TL.tl w).isSuffixOf ((TL.tl z).take k) := by
        refine Bool.eq_iff_iff.mpr ?_
        rw [decide_eq_true_eq, List.isSuffixOf_iff_suffix]
        constructor
        · intro e
          have e2 := V.str.inj e
          have e3 := congrArg TL.tl e2
          rw [cut] at e3
          rw [← e3]
          exact List.drop_suffix _ _
        · intro s
          refine congrArg V.str (TL.ext_tl ?_)
          rw [cut]
          have h1 : ((TL.tl z).take k).drop (k - w.length) <:+ (TL.tl z).take k := List.drop_suffix _ _
          exact (Sam.suf_of h1 s (by rw [List.length_drop, tkl]; omega)).eq_of_length (by rw [List.length_drop, tkl]; omega)
      refine ⟨_, rfl, _, _, rfl, rfl, _, rfl, ?_⟩
      rw [if_pos d0]
      refine ⟨_, rfl, _, rfl, w, rfl, sz wl, _, _, rfl, rfl, _, rfl, z, rfl, sz zl, _, _, rfl, rfl, _, rfl, ?_⟩
      rw [if_pos d1]
      refine ⟨_, rfl, _, rfl, _, rfl, _, rfl, _, rfl, w, rfl, sz wl, _, _, rfl, rfl, _, rfl, z, rfl, sz zl, _, rfl, rfl, ?_⟩
      rw [← eqv] at q'
      exact q'
    · have d0 : decide ((0 : Int) ≤ (k : Int) - (w.length : Int)) = false := decide_eq_false (by omega)
      refine ⟨_, rfl, _, _, rfl, rfl, _, rfl, ?_⟩
      rw [if_neg (by rw [d0]; decide)]
      have : (TL.tl w).isSuffixOf ((TL.tl z).take k) = false := by
        cases e : (TL.tl w).isSuffixOf ((TL.tl z).take k) with
        | false => rfl
        | true =>
          have := (List.isSuffixOf_iff_suffix.mp e).length_le
          rw [List.length_take] at this
          omega
      rw [this] at q'
      exact q'
end

theorem plc_app (a b : List (Int × Sam.Wd)) (w : Sam.Wd) : Sam.plc (a ++ b) w = Sam.plc a w ++ Sam.plc b w := by
  unfold Sam.plc
  rw [List.flatMap_append]
theorem plc_one (m : Int) (t w : Sam.Wd) : Sam.plc [(m, t)] w = (Sam.endsIn w t).map fun k => (m, k) := by
  unfold Sam.plc
  simp
section
variable {P : Program} {w : World} {K : PySem.W.Frag} {mg : Str → Option Value} {base : Heap} {ea : Ea}
/-- where a word ends -/
def spEnds (K : PySem.W.Frag) : Sp := fun vs H Q _ => ∃ (h : Addr) (L : PL) (w : Str), vs = [.ref h, .str w] ∧ HsAt K H h L ∧ L.length ≤ 8 ∧ (∀ q ∈ L, q.2.2.length ≤ 40) ∧ w.length ≤ 1000 ∧
  ∀ H' l R, Same H H' → H l = none → H' l = some (.lst (prefs R)) → PAt H' R → R.map (·.2) = Sam.plc (hsOf L) (TL.tl w) → Q (.ref l) H'
theorem sc__law_ends : FnScope ["house", "word", "out", "number", "text", "stop"] ["house", "word"] (defScope s__law_ends) := ⟨rfl, rfl, rfl, by decide +kernel, rfl, by decide +kernel, by decide +kernel⟩
theorem ok__law_ends (T : Txt K mg ea) (c__law_stands : Cl P w K mg base 1 "_law_stands" spStands) : Cl P w K mg base 2 "_law_ends" (spEnds K) := by
  have nd := sc__law_ends.nd
  refine cl_of T.d__law_ends sc__law_ends (fun vs H Q E h => ?_) (fun f cdv A outer s0 H vs Q E hr h => ?_)
  · obtain ⟨hh, L, w, rfl, _⟩ := h
    rfl
  · obtain ⟨hh, L, w, rfl, hA, hl, ht, wl, q⟩ := h
    refine ⟨_, (pss_cons (ps_set (i := 2) nd rfl (.inl rfl) (pe_lst pa_nil))
      (pss_cons (ps_for PassesOwn.never rfl (pi_listK (K := K) (pv 0)) (pg_tup rfl (pgs_cons (pg_name (i := 3) nd rfl (.inr rfl)) (pgs_cons (pg_name (i := 4) nd rfl (.inr rfl)) pgs_nil)))
        (pss_one (ps_set (i := 2) nd rfl (.inl rfl) (pe_op op_cat (pv 2) (pe_lc (own := [("stop", 5)]) (g := (gName 5)) rfl nd (pi_range1 rfl T.b_range (pa_cons (pe_op op_add (pe_callB call_len_str (by rfl) T.b_len PySem.boot_len (pa_cons (pv 4) pa_nil)) pe_int) pa_nil)) (blkOk_by (own := [("stop", 5)]) (N := ["house", "word", "out", "number", "text", "stop"]) (sc := defScope s__law_ends) (by decide +kernel)) (fun _ _ _ _ _ => (pg_name (i := 5) nd rfl (.inl rfl))) (fun _ _ _ _ _ => pts_one (pt_val (C8.pe_c c__law_stands hr (by decide) (by rfl) (pa_cons (pv 4) (pa_cons (pv 1) (pa_cons (pe_op op_sub (pv 5) (pe_callB call_len_str (by rfl) T.b_len PySem.boot_len (pa_cons (pv 1) pa_nil))) pa_nil)))))) (fun _ _ _ _ _ => (pe_tup (pa_cons (pv 3) (pa_cons (pv 5) pa_nil)))))))))
      (pss_one (ps_ret (pv 2))))), ?_⟩
    have rl : (refs L).length = L.length := List.length_map ..
    have sz : ∀ {n : Nat}, n ≤ 1000 → n ≤ sizeLine := fun h => Nat.le_trans h (by decide)
    refine ⟨Nat.zero_le _, fun o0 no0 => ?_⟩
    refine ⟨_, rfl, hh, rfl, ⟨_, (same_new no0).seq hA.1⟩, ?_⟩
    refine for_list (K := K) (a := hh) (xs := refs L) (fun i σ H' => ∃ (o : Addr) (R : PT) (y3 y4 : Option V), σ = [some (.ref hh), some (.str w), some (.ref o), y3, y4, none] ∧ Same H H' ∧ H o = none ∧ H' o = some (.lst (prefs R)) ∧ PAt H' R ∧ R.map (·.2) = Sam.plc ((hsOf L).take i) (TL.tl w))
      ⟨o0, [], none, none, rfl, same_new no0, no0, upd_same, (fun q m => nomatch m), rfl⟩ (fun i σ H' _ hW => ?_) (fun i x σ H' hx hW => ?_) (fun σ H' hW => ?_)
    · obtain ⟨o, R, y3, y4, rfl, sm, _⟩ := hW
      exact sm.seq hA.1
    · obtain ⟨o, R, y3, y4, rfl, sm, no, ato, pR, eR⟩ := hW
      obtain ⟨t, et, tm, rfl⟩ := refs_get hx
      have iL : i < L.length := (List.getElem?_eq_some_iff.mp et).1
      have t40 := ht t tm
      have ehs : (hsOf L)[i]? = some (t.2.1, TL.tl t.2.2) := by unfold hsOf; rw [List.getElem?_map, et]; rfl
      have tk : (hsOf L).take (i + 1) = (hsOf L).take i ++ [(t.2.1, TL.tl t.2.2)] := by rw [List.take_add_one, ehs]; rfl
      have lt : (TL.tl t.2.2).length = t.2.2.length := (TL.len_tl _).symm
      refine ⟨_, _, rfl, same_tup sm (hA.2 t tm), rfl, _, _, rfl, _, _, rfl, rfl, ?_⟩
      refine ⟨_, rfl, _, rfl, t.2.2, rfl, sz (by omega), _, _, rfl, rfl, _, rfl, by show -(2 ^ 62) ≤ (t.2.2.length : Int) + 1; omega, by show (t.2.2.length : Int) + 1 < 2 ^ 62; omega, fun D nD => ?_⟩
      have en : ((t.2.2.length : Int) + 1).toNat = t.2.2.length + 1 := by omega
      refine lc_w (walk_range (lo := 0) (n := ((t.2.2.length : Int) + 1).toNat)) nD (by omega) (fun _ _ => trivial) (fun j acc H' => ∃ R2 : PT, acc = prefs R2 ∧ PAt H' R2 ∧ R2.map (·.2) = ((List.range j).filter fun k => (TL.tl w).isSuffixOf ((TL.tl t.2.2).take k)).map fun k => (t.2.1, k)) (fun _ _ => ⟨[], rfl, (fun q m => nomatch m), rfl⟩) (fun j acc H5 H6 l0 h0 but r => ?_) (fun i H x H' y => by rw [y.1]; exact Same.refl _)
        (fun j x acc HA HB Qn Qf hj sm2 y r at_ kn kf => ?_) (fun acc HA smA atD _ rD => ?_)
      · obtain ⟨R2, r1, r2, r3⟩ := r
        exact ⟨R2, r1, fun q hq => but _ _ (fun z => by have := r2 q hq; rw [z, h0] at this; cases this) (r2 q hq), r3⟩
      · obtain ⟨rfl, rfl⟩ := y
        obtain ⟨R2, r1, r2, r3⟩ := r
        have ej : (0 : Int) + (j : Int) = (j : Int) := by omega
        have flt : ((List.range (j + 1)).filter fun k => (TL.tl w).isSuffixOf ((TL.tl t.2.2).take k)) = ((List.range j).filter fun k => (TL.tl w).isSuffixOf ((TL.tl t.2.2).take k)) ++ (if (TL.tl w).isSuffixOf ((TL.tl t.2.2).take j) = true then [j] else []) := by
          rw [List.range_succ, List.filter_append]
          congr 1
          by_cases c : (TL.tl w).isSuffixOf ((TL.tl t.2.2).take j) = true
          · rw [if_pos c]; simp [c]
          · rw [if_neg c]; simp [c]
        refine ⟨rfl, _, rfl, _, rfl, _, rfl, _, rfl, w, rfl, sz wl, _, _, rfl, rfl, t.2.2, w, j, by show [V.str t.2.2, V.str w, V.int (0 + (j : Int) - (w.length : Int))] = _; rw [ej], by omega, wl, by omega, fun H6 s6 => ?_⟩
        by_cases c : (TL.tl w).isSuffixOf ((TL.tl t.2.2).take j) = true
        · rw [c]
          refine ⟨_, rfl, ?_⟩
          refine ⟨_, rfl, _, rfl, (by show 2 ≤ sizeLine; decide), fun tt ntt => ?_⟩
          have s7 := s6.trans (same_new (o := .tup [.int t.2.1, .int (0 + (j : Int))]) ntt)
          refine kn _ _ s7 ⟨R2 ++ [(tt, t.2.1, j)], by rw [r1, prefs_app]; rfl, fun q hq => ?_, ?_⟩
          · rcases List.mem_append.mp hq with m | m
            · exact s7 _ _ (r2 q m)
            · rw [List.mem_singleton.mp m]
              show (upd _ tt _) tt = some (.tup [.int t.2.1, .int (j : Int)])
              rw [upd_same]
              show some (HO.tup [V.int t.2.1, V.int (0 + (j : Int))]) = _
              rw [ej]
          · rw [List.map_append, r3, flt, if_pos c, List.map_append]
            rfl
        · have c' : (TL.tl w).isSuffixOf ((TL.tl t.2.2).take j) = false := Bool.eq_false_iff.mpr c
          rw [c']
          refine ⟨_, rfl, ?_⟩
          exact kf _ s6 ⟨R2, r1, r2.same s6, by rw [r3, flt, if_neg c, List.append_nil]⟩
      · obtain ⟨R2, r1, r2, r3⟩ := rD
        rw [en] at r3
        have l2 : R2.length ≤ 41 := by
          have := congrArg List.length r3
          rw [List.length_map, List.length_map] at this
          have := List.length_filter_le (fun k => (TL.tl w).isSuffixOf ((TL.tl t.2.2).take k)) (List.range (t.2.2.length + 1))
          rw [List.length_range] at this
          omega
        have l1 : R.length ≤ 41 * ((hsOf L).take i).length := by
          have := congrArg List.length eR
          rw [List.length_map] at this
          rw [this]
          refine splc_len fun q hq => ?_
          obtain ⟨y, hy, rfl⟩ := List.mem_map.mp (List.mem_of_mem_take hq)
          have := ht y hy
          rw [TL.len_tl] at this
          exact this
        have l3 : ((hsOf L).take i).length ≤ 8 := by rw [List.length_take]; unfold hsOf; rw [List.length_map]; omega
        have smHA := sm.trans smA
        refine ⟨o, D, _, _, rfl, rfl, smA _ _ ato, atD, Nat.le_trans (by rw [r1, prefs_len, prefs_len]; omega : _ ≤ 1000) (by decide), fun p np => ?_⟩
        have s9 := same_new (o := .lst (prefs R ++ acc)) np
        refine ⟨p, R ++ R2, _, _, rfl, smHA.trans s9, smHA.free np, by rw [upd_same, prefs_app, r1], fun q hq => ?_, ?_⟩
        · rcases List.mem_append.mp hq with m | m
          · exact s9 _ _ (smA _ _ (pR q m))
          · exact s9 _ _ (r2 q m)
        · rw [List.map_append, eR, r3, tk, plc_app, plc_one]
          unfold Sam.endsIn
          rw [lt]
    · obtain ⟨o, R, y3, y4, rfl, sm, no, ato, pR, eR⟩ := hW
      rw [rl, List.take_of_length_le (by unfold hsOf; rw [List.length_map]; exact Nat.le_refl _)] at eR
      exact ⟨_, rfl, q H' o R sm no ato pR eR⟩
end

end SH
set_option Elab.async false
set_option linter.all false
set_option maxRecDepth 100000
set_option maxHeartbeats 4000000
namespace SH
open PySem PySem.Spec PyProof.Rows L2
/-! lists of places as data -/
def dPt (q : Int × Nat) : PyData := .tuple [.int q.1, .int (q.2 : Int)]
def dPts (ps : List (Int × Nat)) : PyData := .list (ps.map dPt)
theorem dp_ptsAll {K : PySem.W.Frag} {H : Hp} : ∀ {R : PT}, PAt H R → DpAll K H (prefs R) ((R.map (·.2)).map dPt)
  | [], _ => .nil
  | q :: r, h => .cons (.tup (.inl (.inl (h q (List.mem_cons_self ..)))) (.cons (.int _) (.cons (.int _) .nil))) (dp_ptsAll fun x m => h x (List.mem_cons_of_mem _ m))
theorem dp_pts {K : PySem.W.Frag} {H : Hp} {l : Addr} {R : PT} (h : H l = some (.lst (prefs R))) (h2 : PAt H R) : Dp K H (.ref l) (dPts (R.map (·.2))) := .lst (SqL.of h) (dp_ptsAll h2)
theorem dPts_lay : ∀ ps : List (Int × Nat), PyData.canLayAll0 (ps.map dPt) = true
  | [] => rfl
  | q :: r => by
    rw [List.map_cons, PyData.canLayAll0, dPts_lay r]
    rfl
theorem dPts_deep : ∀ ps : List (Int × Nat), PyData.depthAll (ps.map dPt) ≤ 1
  | [] => Nat.zero_le _
  | q :: r => by
    rw [List.map_cons, PyData.depthAll]
    have := dPts_deep r
    have e : PyData.depth (dPt q) = 1 := rfl
    rw [e]
    omega
theorem dPts_shaped (ps : List (Int × Nat)) : SeqAt.shaped (dPts ps) = true := by
  unfold SeqAt.shaped
  have e1 : (dPts ps).canLay0 = true := dPts_lay ps
  have e2 : (dPts ps).depth ≤ 64 := by
    show PyData.depthAll (ps.map dPt) + 1 ≤ 64
    have := dPts_deep ps
    omega
  rw [e1, decide_eq_true e2]
  rfl
theorem dPt_eqv (p q : Int × Nat) : PyData.eqv (dPt p) (dPt q) = decide (p = q) := by
  show ((p.1 == q.1) && (((p.2 : Int) == (q.2 : Int)) && true)) = decide (p = q)
  obtain ⟨a, b⟩ := p
  obtain ⟨c, d⟩ := q
  refine Bool.eq_iff_iff.mpr ?_
  simp only [Bool.and_true, Bool.and_eq_true, beq_iff_eq, decide_eq_true_eq, Prod.mk.injEq]
  omega
theorem dPts_eqvAll : ∀ ps qs : List (Int × Nat), PyData.eqvAll (ps.map dPt) (qs.map dPt) = decide (ps = qs)
  | [], [] => rfl
  | [], q :: s => rfl
  | p :: r, [] => rfl
  | p :: r, q :: s => by
    show (PyData.eqv (dPt p) (dPt q) && PyData.eqvAll (r.map dPt) (s.map dPt)) = _
    rw [dPt_eqv, dPts_eqvAll r s]
    refine Bool.eq_iff_iff.mpr ?_
    simp
theorem dPts_eqv (ps qs : List (Int × Nat)) : PyData.eqv (dPts ps) (dPts qs) = decide (ps = qs) := dPts_eqvAll ps qs
/-! rows of classes -/
abbrev RT := List (Addr × Sam.Wd × Sam.Wd × Addr × PT)
def rrefs (T : RT) : List V := T.map fun q => .ref q.1
def RAt (H : Hp) (T : RT) : Prop := ∀ q ∈ T, H q.1 = some (.tup [.str (SX.S q.2.1), .str (SX.S q.2.2.1), .ref q.2.2.2.1]) ∧ H q.2.2.2.1 = some (.lst (prefs q.2.2.2.2)) ∧ PAt H q.2.2.2.2
theorem RAt.same {H H' : Hp} {T : RT} (h : RAt H T) (s : Same H H') : RAt H' T := fun q m => ⟨s _ _ (h q m).1, s _ _ (h q m).2.1, (h q m).2.2.same s⟩
def rowsOf (T : RT) : List (Sam.Wd × Sam.Wd × List (Int × Nat)) := T.map fun q => (q.2.1, q.2.2.1, q.2.2.2.2.map (·.2))
theorem rrefs_len (T : RT) : (rrefs T).length = T.length := List.length_map ..
theorem rowsOf_len (T : RT) : (rowsOf T).length = T.length := List.length_map ..
theorem rrefs_at {T : RT} {k : Nat} {q : Addr × Sam.Wd × Sam.Wd × Addr × PT} (h : T[k]? = some q) : atI (rrefs T) (k : Int) = some (.ref q.1) := atI_nat (by unfold rrefs; rw [List.getElem?_map, h]; rfl)
/-- a row's list is apart from one that is new -/
theorem RAt.setL {H : Hp} {T : RT} (h : RAt H T) {r : Addr} {xs ys : List V} (e : H r = some (.lst xs)) (n : ∀ q ∈ T, q.2.2.2.1 ≠ r) : RAt (upd H r (.lst ys)) T := fun q m => by
  obtain ⟨h1, h2, h3⟩ := h q m
  exact ⟨by rw [upd_ne (fun z => by rw [z, e] at h1; cases h1)]; exact h1, by rw [upd_ne (n q m)]; exact h2, h3.setL e⟩
theorem filter_one (k : Nat) : ∀ n : Nat, (List.range n).filter (fun j => decide (j = k)) = if k < n then [k] else []
  | 0 => rfl
  | n + 1 => by
    rw [List.range_succ, List.filter_append, filter_one k n]
    by_cases h : k < n
    · rw [if_pos h, if_pos (by omega), List.filter_cons_of_neg (by simp; omega)]
      rfl
    · rw [if_neg h]
      by_cases e : n = k
      · subst e
        rw [if_pos (by omega), List.filter_cons_of_pos (by simp)]
        rfl
      · rw [if_neg (by omega), List.filter_cons_of_neg (by simpa using e)]
        rfl
section
variable {P : Program} {w : World} {K : PySem.W.Frag} {mg : Str → Option Value} {base : Heap} {ea : Ea}
def spClasses (K : PySem.W.Frag) : Sp := fun vs H Q _ => ∃ (h : Addr) (L : PL), vs = [.ref h] ∧ HsAt K H h L ∧ HouseOk L ∧
  (L = [] → ∀ H' l, Same H H' → H l = none → H' l = some (.lst []) → Q (.ref l) H') ∧
  (L ≠ [] → ∃ g rep, Sam.Fin (Sam.txs (hsOf L)) g rep ∧ ∀ H' l T, Same H H' → H l = none → H' l = some (.lst (rrefs T)) → RAt H' T → rowsOf T = (List.range g.n).map (fun k => (Sam.mw g rep k, rep k, Sam.plc (hsOf L) (rep k))) → T.length ≤ 20001 → Q (.ref l) H')
theorem sc__law_classes : FnScope ["house", "rows", "word", "pairs", "same", "k"] ["house"] (defScope s__law_classes) := ⟨rfl, rfl, rfl, by decide +kernel, rfl, by decide +kernel, by decide +kernel⟩
theorem ok__law_classes (T : Txt K mg ea) (c__law_words : Cl P w K mg base 1 "_law_words" (spWords K)) (c__law_ends : Cl P w K mg base 2 "_law_ends" (spEnds K)) : Cl P w K mg base 3 "_law_classes" (spClasses K) := by
  have nd := sc__law_classes.nd
  refine cl_of T.d__law_classes sc__law_classes (fun vs H Q E h => ?_) (fun f cdv A outer s0 H vs Q E hr h => ?_)
  · obtain ⟨hh, L, rfl, _⟩ := h
    rfl
  · obtain ⟨hh, L, rfl, hA, ok, q1, q2⟩ := h
    refine ⟨_, (pss_cons (ps_if (pt_cmpR op_eq (pe_callB call_len_seq (by rfl) T.b_len PySem.boot_len (pa_cons (pv 0) pa_nil)) pe_int (nomark _))
        (pss_one (ps_ret (pe_lst pa_nil)))
        pss_nil)
      (pss_cons (ps_set (i := 1) nd rfl (.inr rfl) (pe_lst pa_nil))
      (pss_cons (ps_for PassesOwn.never rfl (pi_listK (K := K) (pe_op op_cat (pe_lst (pa_cons pe_str pa_nil)) (C8.pe_c c__law_words hr (by decide) (by rfl) (pa_cons (pv 0) pa_nil)))) (pg_name (i := 2) nd rfl (.inl rfl))
        (pss_cons (ps_set (i := 3) nd rfl (.inr rfl) (C8.pe_c c__law_ends hr (by decide) (by rfl) (pa_cons (pv 0) (pa_cons (pv 2) pa_nil))))
          (pss_cons (ps_setLc (i := 4) (own := [("k", 5)]) (g := (gName 5)) rfl nd rfl rfl (sw_true rfl rfl rfl (by decide +kernel)) (pi_range1 rfl T.b_range (pa_cons (pe_callB call_len_seq (by rfl) T.b_len PySem.boot_len (pa_cons (pv 1) pa_nil)) pa_nil)) (blkOk_by (own := [("k", 5)]) (N := ["house", "rows", "word", "pairs", "same", "k"]) (sc := defScope s__law_classes) (by decide +kernel)) (fun _ _ _ _ _ => (pg_name (i := 5) nd rfl (.inl rfl))) (fun _ _ _ _ _ => pts_one (pt_cmpR (op_eqDK (K := K) hr.units) (pe_ix (ixt (K := K)) (pe_ix (ixl (K := K)) (pv 1) (pv 5) (fun _ _ => rfl)) pe_int (fun _ _ => rfl)) (pv 3) (nomark _))) (fun _ _ _ _ _ => (pv 5)))
          (pss_one (ps_if (pt_cmpR op_gt (pe_callB call_len_seq (by rfl) T.b_len PySem.boot_len (pa_cons (pv 4) pa_nil)) pe_int (nomark _))
            (pss_one (ps_asg (pe_tup (pa_cons (pe_ix (ixt (K := K)) (pe_ix (ixl (K := K)) (pv 1) (pe_ix (ixl (K := K)) (pv 4) pe_int (fun _ _ => rfl)) (fun _ _ => rfl)) pe_int (fun _ _ => rfl)) (pa_cons (pv 2) (pa_cons (pv 3) pa_nil)))) (pg_sub (pv 1) (pe_ix (ixl (K := K)) (pv 4) pe_int (fun _ _ => rfl)) set_list)))
            (pss_one (ps_expr (pe_bm PySem.F.plainAttrs_list PySem.F.slot_list_append PySem.F.type_list_append mt_append (pv 1) (pa_cons (pe_tup (pa_cons (pv 2) (pa_cons (pv 2) (pa_cons (pv 3) pa_nil)))) pa_nil)))))))))
      (pss_one (ps_ret (pv 1)))))), ?_⟩
    have rl : (refs L).length = L.length := List.length_map ..
    have sz : ∀ {n : Nat}, n ≤ 1000 → n ≤ sizeLine := fun h => Nat.le_trans h (by decide)
    refine ⟨_, rfl, hh, _, rfl, .inl hA.1, rfl, _, rfl, ite2 (fun e => ?_) (fun e => ?_)⟩
    · have hl0 : L = [] := by
        have := V.int.inj (of_decide_eq_true e)
        rw [rl] at this
        exact List.eq_nil_of_length_eq_zero (by omega)
      exact ⟨Nat.zero_le _, fun l nl => q1 hl0 _ l (same_new nl) nl upd_same⟩
    have hl0 : L ≠ [] := fun z => e (decide_eq_true (by rw [z]; rfl))
    obtain ⟨g, rep, F, q⟩ := q2 hl0
    have hs0 : hsOf L ≠ [] := fun z => hl0 (List.map_eq_nil_iff.mp z)
    have asc : ((hsOf L).map (·.1)).Pairwise (· < ·) := by
      have := ok.asc
      unfold hsOf
      rw [List.map_map]
      exact this
    have few := ok.few
    have t40 : ∀ q ∈ L, q.2.2.length ≤ 40 := fun q hq => (ok.txt q hq).2
    refine ⟨Nat.zero_le _, fun rw' nrw => ?_⟩
    have s1 := same_new (o := .lst []) nrw
    -- the words
    refine ⟨(by show 1 ≤ sizeLine; decide), fun el nel => ?_⟩
    have s2 := s1.trans (same_new (o := .lst [.str ""]) nel)
    have rwel : rw' ≠ el := fun z => by rw [← z, upd_same] at nel; cases nel
    refine ⟨_, rfl, hh, L, rfl, hA.same s2, few, t40, fun H3 wl ws s3 nwl atw sW wsl mW => ?_⟩
    have atel : H3 el = some (.lst [.str ""]) := s3 _ _ upd_same
    refine ⟨el, wl, _, _, rfl, rfl, atel, atw, Nat.le_of_lt (szB (by unfold strsV; rw [List.length_map]; show 1 + _ ≤ _; omega)), fun cl ncl => ?_⟩
    have eW : [V.str ""] ++ strsV ws = strsV ([] :: ws) := rfl
    rw [eW]
    have s4 := (s2.trans s3).trans (same_new (o := .lst (strsV ([] :: ws))) ncl)
    have sW' : ([] :: ws : List Sam.Wd).Pairwise Sam.slx := by
      rw [List.pairwise_cons]
      refine ⟨fun w hw => .inl ?_, sW⟩
      have := ((mW w).mp hw).1
      exact Nat.pos_of_ne_zero fun z => this (List.eq_nil_of_length_eq_zero z)
    have mW' : ∀ w, w ∈ ([] :: ws : List Sam.Wd) ↔ Sam.Inner (Sam.txs (hsOf L)) w := fun w => by
      rw [List.mem_cons, mW]
      constructor
      · rintro (rfl | ⟨_, t, ht, x, y, e⟩)
        · exact ⟨[], List.mem_cons_self .., [], [], rfl⟩
        · exact ⟨t, List.mem_cons_of_mem _ ht, x, y, e⟩
      · rintro ⟨t, ht, x, y, e⟩
        by_cases hw : w = []
        · exact .inl hw
        · refine .inr ⟨hw, ?_⟩
          rcases List.mem_cons.mp ht with z | m
          · rw [z] at e
            have := congrArg List.length e
            simp at this
            exact absurd (List.eq_nil_of_length_eq_zero (by omega)) hw
          · exact ⟨t, m, x, y, e⟩
    have wlen : ∀ w ∈ ([] :: ws : List Sam.Wd), w.length ≤ 40 := fun w hw => by
      refine inner_len (fun x hx => ?_) ((mW' w).mp hw)
      rcases List.mem_cons.mp hx with z | m
      · rw [z]; exact Nat.zero_le _
      · obtain ⟨y, hy, rfl⟩ := List.mem_map.mp m
        obtain ⟨t, ht, rfl⟩ := List.mem_map.mp hy
        show (TL.tl t.2.2).length ≤ 40
        rw [← TL.len_tl]
        exact t40 t ht
    have Wl : ([] :: ws : List Sam.Wd).length ≤ 20001 := by rw [List.length_cons]; omega
    generalize ([] :: ws : List Sam.Wd) = W at *
    have atr : H3 rw' = some (.lst []) := s3 _ _ (by rw [upd_ne rwel, upd_same])
    have atr4 : (upd H3 cl (.lst (strsV W))) rw' = some (.lst []) := by rw [upd_ne (fun z => by rw [← z, atr] at ncl; cases ncl)]; exact atr
    have atc4 : (upd H3 cl (.lst (strsV W))) cl = some (.lst (strsV W)) := upd_same
    generalize upd H3 cl (.lst (strsV W)) = H4 at s4 atr4 atc4 ⊢
    refine ⟨cl, rfl, ⟨_, SqL.of atc4⟩, ?_⟩
    have strl : (strsV W).length = W.length := List.length_map ..
    have clrw : cl ≠ rw' := fun z => by
      rw [z, atr4] at atc4
      have := congrArg List.length (HO.lst.inj (Option.some.inj atc4))
      rw [strl] at this
      have m : ([] : Sam.Wd) ∈ W := (mW' []).mpr ⟨[], List.mem_cons_self .., [], [], rfl⟩
      rw [List.eq_nil_of_length_eq_zero this.symm] at m
      cases m
    refine for_list (K := K) (a := cl) (xs := strsV W) (fun i σ H' => ∃ (R : RT) (y2 y3 y4 : Option V), σ = [some (.ref hh), some (.ref rw'), y2, y3, y4, none] ∧ Same H H' ∧ H' cl = some (.lst (strsV W)) ∧ H' rw' = some (.lst (rrefs R)) ∧ RAt H' R ∧ (∀ q ∈ R, q.2.2.2.1 ≠ rw') ∧ Sam.Cls (hsOf L) g rep W i (rowsOf R) ∧ R.length ≤ i)
      ⟨[], none, none, none, rfl, s4, atc4, atr4, (fun q m => nomatch m), (fun q m => nomatch m), Sam.cls_start F, Nat.le_refl _⟩ (fun i σ H' _ hW => ?_) (fun i x σ H' hx hW => ?_) (fun σ H' hW => ?_)
    · obtain ⟨R, y2, y3, y4, rfl, _, h1, _⟩ := hW
      exact SqL.of h1
    · obtain ⟨R, y2, y3, y4, rfl, sm, atc, atR, rR, nR, C, Rl⟩ := hW
      have iW : i < W.length := by
        have := (List.getElem?_eq_some_iff.mp hx).1
        omega
      have ew : W[i]? = some W[i] := List.getElem?_eq_getElem iW
      have wm := List.mem_of_getElem? ew
      generalize W[i] = v at ew wm
      unfold strsV at hx
      rw [List.getElem?_map, ew] at hx
      have hx := Option.some.inj hx
      subst hx
      have v40 := wlen v wm
      have tv : TL.tl (SX.S v) = v := TL.tl_mk v
      have lv : (SX.S v).length ≤ 1000 := by rw [TL.len_tl, tv]; omega
      refine ⟨_, rfl, _, rfl, hh, L, SX.S v, rfl, hA.same sm, few, t40, lv, fun H5 pl Rp s5 npl atp pP eP => ?_⟩
      rw [tv] at eP
      have sm5 := sm.trans s5
      have atR5 := s5 _ _ atR
      have rR5 := rR.same s5
      obtain ⟨k0, k0n, ek0, cs1, cs2⟩ := C.step hs0 asc F sW' mW' ew
      have rlen : (rrefs R).length = R.length := rrefs_len R
      -- the rows with the same places
      refine ⟨_, rfl, rw', _, rfl, .inl (SqL.of atR5), _, rfl, by rw [rlen]; omega, by rw [rlen]; omega, fun D nD => ?_⟩
      have en : ((rrefs R).length : Int).toNat = R.length := by rw [rlen]; omega
      refine lc_w (walk_range (lo := 0) (n := ((rrefs R).length : Int).toNat)) nD (by omega) (fun _ _ => trivial) (fun j acc _ => acc = natV ((List.range j).filter fun x => decide (x = k0))) (fun _ _ => rfl) (fun _ _ _ _ _ _ _ r => r) (fun i H x H' y => by rw [y.1]; exact Same.refl _)
        (fun j x acc HA HB Qn Qf hj sm2 y r at_ kn kf => ?_) (fun acc HA smA atD _ rD => ?_)
      · obtain ⟨rfl, rfl⟩ := y
        rw [en] at hj
        have ej : (0 : Int) + (j : Int) = (j : Int) := by omega
        have eR : R[j]? = some R[j] := List.getElem?_eq_getElem hj
        have mR := List.mem_of_getElem? eR
        generalize hq : R[j] = q' at eR mR
        obtain ⟨h1, h2, h3⟩ := rR5.same sm2 q' mR
        obtain ⟨lw, c1, _⟩ := C.row j (by rw [rowsOf_len]; exact hj)
        have c1' : (rowsOf R)[j]? = some (q'.2.1, q'.2.2.1, q'.2.2.2.2.map (·.2)) := by unfold rowsOf; rw [List.getElem?_map, eR]; rfl
        rw [c1'] at c1
        have eP' : q'.2.2.2.2.map (·.2) = Sam.plc (hsOf L) (rep j) := by
          have := Option.some.inj c1
          exact congrArg (fun z => z.2.2) this
        have jn : j < g.n := by have := C.le; rw [rowsOf_len] at this; omega
        have ec := Sam.plc_cls hs0 asc F jn k0n ek0
        have at2 : atI [V.str (SX.S q'.2.1), V.str (SX.S q'.2.2.1), V.ref q'.2.2.2.1] 2 = some (.ref q'.2.2.2.1) := rfl
        refine ⟨rfl, _, rfl, _, rfl, rw', _, _, _, rfl, rfl, SqL.of (sm2 _ _ atR5), by rw [ej]; exact rrefs_at eR, q'.1, _, _, _, rfl, rfl, .inl (.inl h1), at2, _, rfl, dPts (q'.2.2.2.2.map (·.2)), dPts (Rp.map (·.2)), dp_pts h2 h3, dp_pts (sm2 _ _ atp) (pP.same sm2), dPts_shaped _, dPts_shaped _, ?_⟩
        rw [dPts_eqv, eP', eP]
        have flt : ((List.range (j + 1)).filter fun x => decide (x = k0)) = ((List.range j).filter fun x => decide (x = k0)) ++ (if j = k0 then [j] else []) := by
          rw [List.range_succ, List.filter_append]
          congr 1
          by_cases c : j = k0
          · subst c; rw [if_pos rfl, List.filter_cons_of_pos (by simp)]; rfl
          · rw [if_neg c, List.filter_cons_of_neg (by simpa using c)]; rfl
        refine ⟨_, rfl, ?_⟩
        by_cases c : j = k0
        · rw [decide_eq_true (ec.mpr c)]
          refine ⟨_, rfl, kn _ _ (Same.refl _) ?_⟩
          rw [r, flt, if_pos c, natV_app]
          show _ ++ [V.int (0 + (j : Int))] = _
          rw [ej]
          rfl
        · rw [decide_eq_false (fun z => c (ec.mp z))]
          refine kf _ (Same.refl _) ?_
          rw [r, flt, if_neg c, List.append_nil]
      rw [en, filter_one] at rD
      have smH := sm5.trans smA
      have atRA := smA _ _ atR5
      have rRA := rR5.same smA
      by_cases c : k0 < R.length
      · rw [if_pos c] at rD
        subst rD
        refine ⟨_, rfl, D, _, rfl, .inl (SqL.of atD), _, _, rfl, rfl, _, rfl, iteT ?_⟩
        have eR : R[k0]? = some R[k0] := List.getElem?_eq_getElem c
        have mR := List.mem_of_getElem? eR
        generalize R[k0] = q' at eR mR
        obtain ⟨h1, h2, h3⟩ := rRA q' mR
        have at0 : atI (natV [k0]) 0 = some (.int (k0 : Int)) := rfl
        have at00 : atI [V.str (SX.S q'.2.1), V.str (SX.S q'.2.2.1), V.ref q'.2.2.2.1] 0 = some (.str (SX.S q'.2.1)) := rfl
        refine ⟨_, rfl, _, rfl, D, _, _, _, rfl, rfl, SqL.of atD, at0, rw', _, _, _, rfl, rfl, SqL.of atRA, rrefs_at eR, q'.1, _, _, _, rfl, rfl, .inl (.inl h1), at00, _, rfl, _, rfl, (by show 3 ≤ sizeLine; decide), fun t nt => ?_⟩
        have s8 := same_new (o := .tup [.str (SX.S q'.2.1), .str (SX.S v), .ref pl]) nt
        have trw : t ≠ rw' := fun z => by rw [z, atRA] at nt; cases nt
        refine ⟨_, rfl, _, rfl, D, _, _, _, rfl, rfl, SqL.of (s8 _ _ atD), at0, rw', _, _, k0, rfl, rfl, s8 _ _ atRA, ixN_nat (by rw [rrefs_len]; exact c), ?_⟩
        have sF := same_mut (o := .lst ((rrefs R).set k0 (.ref t))) (smH.trans s8) nrw
        have eset : (rrefs R).set k0 (.ref t) = rrefs (R.set k0 (t, q'.2.1, v, pl, Rp)) := by unfold rrefs; rw [List.map_set]
        have plrw : pl ≠ rw' := fun z => by rw [z, atR] at npl; cases npl
        have nR2 : ∀ q ∈ R.set k0 (t, q'.2.1, v, pl, Rp), q.2.2.2.1 ≠ rw' := fun q hq => by
          rcases List.mem_or_eq_of_mem_set hq with m | e
          · exact nR q m
          · rw [e]; exact plrw
        refine ⟨_, _, _, _, rfl, sF, ?_, ?_, ?_, nR2, ?_, ?_⟩
        · rw [upd_ne clrw]; exact s8 _ _ (smA _ _ (s5 _ _ atc))
        · rw [upd_same, eset]
        · intro q hq
          have base2 : ∀ q ∈ R.set k0 (t, q'.2.1, v, pl, Rp), (upd HA t (.tup [.str (SX.S q'.2.1), .str (SX.S v), .ref pl])) q.1 = some (.tup [.str (SX.S q.2.1), .str (SX.S q.2.2.1), .ref q.2.2.2.1]) ∧ (upd HA t (.tup [.str (SX.S q'.2.1), .str (SX.S v), .ref pl])) q.2.2.2.1 = some (.lst (prefs q.2.2.2.2)) ∧ PAt (upd HA t (.tup [.str (SX.S q'.2.1), .str (SX.S v), .ref pl])) q.2.2.2.2 := fun q hq => by
            rcases List.mem_or_eq_of_mem_set hq with m | e
            · exact rRA.same s8 q m
            · rw [e]; exact ⟨upd_same, s8 _ _ (smA _ _ atp), (pP.same smA).same s8⟩
          exact RAt.setL base2 (s8 _ _ atRA) nR2 q hq
        · have := cs1 (by rw [rowsOf_len]; exact c)
          have e5 : rowsOf (R.set k0 (t, q'.2.1, v, pl, Rp)) = (rowsOf R).set k0 (Sam.mw g rep k0, v, Sam.plc (hsOf L) v) := by
            obtain ⟨lw, c1, _⟩ := C.row k0 (by rw [rowsOf_len]; exact c)
            have c1' : (rowsOf R)[k0]? = some (q'.2.1, q'.2.2.1, q'.2.2.2.2.map (·.2)) := by unfold rowsOf; rw [List.getElem?_map, eR]; rfl
            rw [c1'] at c1
            have e6 : q'.2.1 = Sam.mw g rep k0 := congrArg (fun z => z.1) (Option.some.inj c1)
            unfold rowsOf
            rw [List.map_set, eP, e6]
          rw [e5]
          exact this
        · rw [List.length_set]; omega
      · rw [if_neg c] at rD
        subst rD
        refine ⟨_, rfl, D, _, rfl, .inl (SqL.of atD), _, _, rfl, rfl, _, rfl, iteF ?_⟩
        refine ⟨_, rfl, .inl ⟨rfl, _, SqL.of atRA⟩, _, rfl, _, rfl, _, rfl, (by show 3 ≤ sizeLine; decide), fun t nt => ?_⟩
        have s8 := same_new (o := .tup [.str (SX.S v), .str (SX.S v), .ref pl]) nt
        refine ⟨rw', _, _, rfl, rfl, s8 _ _ atRA, szB (by rw [rrefs_len]; omega), ?_⟩
        have sF := same_mut (o := .lst (rrefs R ++ [.ref t])) (smH.trans s8) nrw
        have eset : rrefs R ++ [.ref t] = rrefs (R ++ [(t, v, v, pl, Rp)]) := by unfold rrefs; rw [List.map_append]; rfl
        have plrw : pl ≠ rw' := fun z => by rw [z, atR] at npl; cases npl
        have nR2 : ∀ q ∈ R ++ [(t, v, v, pl, Rp)], q.2.2.2.1 ≠ rw' := fun q hq => by
          rcases List.mem_append.mp hq with m | m
          · exact nR q m
          · rw [List.mem_singleton.mp m]; exact plrw
        refine ⟨_, _, _, _, rfl, sF, ?_, ?_, ?_, nR2, ?_, ?_⟩
        · rw [upd_ne clrw]; exact s8 _ _ (smA _ _ (s5 _ _ atc))
        · rw [upd_same, eset]
        · intro q hq
          have base2 : RAt (upd HA t (.tup [.str (SX.S v), .str (SX.S v), .ref pl])) (R ++ [(t, v, v, pl, Rp)]) := fun q hq => by
            rcases List.mem_append.mp hq with m | m
            · exact rRA.same s8 q m
            · rw [List.mem_singleton.mp m]; exact ⟨upd_same, s8 _ _ (smA _ _ atp), (pP.same smA).same s8⟩
          exact RAt.setL base2 (s8 _ _ atRA) nR2 q hq
        · obtain ⟨_, _, this⟩ := cs2 (by rw [rowsOf_len]; exact c)
          have e5 : rowsOf (R ++ [(t, v, v, pl, Rp)]) = rowsOf R ++ [(v, v, Sam.plc (hsOf L) v)] := by
            unfold rowsOf
            rw [List.map_append, ← eP]
            rfl
          rw [e5]
          exact this
        · rw [List.length_append]; show _ + 1 ≤ _; omega
    · obtain ⟨R, y2, y3, y4, rfl, sm, atc, atR, rR, nR, C, Rl⟩ := hW
      rw [strl] at C Rl
      exact ⟨_, rfl, q H' rw' R sm nrw atR rR (C.done hs0 asc F sW' mW') (by omega)⟩
end

end SH
set_option Elab.async false
set_option linter.all false
set_option maxRecDepth 100000
set_option maxHeartbeats 4000000
namespace SH
open PySem PySem.Spec PyProof.Rows L2
/-- words with the places where they end, in the order of their making; the addresses of the pairs stand with them -/
abbrev OO := List (Str × Addr × Int × Nat)
def vo (O : OO) : VOcc := O.map fun o => (o.1, V.ref o.2.1)
def TpA (H : Hp) (O : OO) : Prop := ∀ o ∈ O, H o.2.1 = some (.tup [.int o.2.2.1, .int (o.2.2.2 : Int)])
theorem TpA.same {H H' : Hp} {O : OO} (h : TpA H O) (s : Same H H') : TpA H' O := fun o m => s _ _ (h o m)
theorem TpA.put {H : Hp} {O : OO} (h : TpA H O) {b : Addr} {x y : HO} (e : H b = some x) (n : ∀ vs, x ≠ .tup vs) : TpA (upd H b y) O := fun o m => by
  have ho := h o m
  rw [upd_ne (fun z => by rw [z, e] at ho; exact n _ (Option.some.inj ho))]
  exact ho

def ewS (q : Int × Str) (stop m : Nat) : List (Str × Int × Nat) := (List.range m).map fun start => (cutN q.2 start stop, q.1, stop)
def ewQ (q : Int × Str) (m : Nat) : List (Str × Int × Nat) := (List.range m).flatMap fun stop => ewS q stop (stop + 1)
/-- all words, the empty one too, with the places where they end -/
def ew (h : List (Int × Str)) : List (Str × Int × Nat) := h.flatMap fun q => ewQ q (q.2.length + 1)
theorem ewS_succ (q : Int × Str) (s m : Nat) : ewS q s (m + 1) = ewS q s m ++ [(cutN q.2 m s, q.1, s)] := by
  unfold ewS
  rw [List.range_succ, List.map_append]
  rfl
theorem ewQ_succ (q : Int × Str) (m : Nat) : ewQ q (m + 1) = ewQ q m ++ ewS q m (m + 1) := by
  unfold ewQ
  rw [List.range_succ, List.flatMap_append]
  simp
theorem ew_snoc (h : List (Int × Str)) (q : Int × Str) : ew (h ++ [q]) = ew h ++ ewQ q (q.2.length + 1) := by
  unfold ew
  rw [List.flatMap_append]
  simp
section
variable {P : Program} {w : World} {K : PySem.W.Frag} {mg : Str → Option Value} {base : Heap} {ea : Ea}
def spEndsW (K : PySem.W.Frag) : Sp := fun vs H Q _ => ∃ (a : Addr) (L : PL), vs = [.ref a] ∧ HsAt K H a L ∧ L.length ≤ 8 ∧ (∀ q ∈ L, q.2.2.length ≤ 40) ∧
  ∀ (D : Addr) (T : VT) (O : OO) (H' : Hp), Vd H H' D T → VdOf T (vo O) → TpA H' O → O.map (fun o => (o.1, o.2.2)) = ew (L.map (·.2)) → O.length ≤ 14000 → Q (.ref D) H'
theorem sc__ends_of_words : FnScope ["house", "found", "number", "text", "stop", "start"] ["house"] (defScope s__ends_of_words) := ⟨rfl, rfl, rfl, by decide +kernel, rfl, by decide +kernel, by decide +kernel⟩
theorem ok__ends_of_words (T : Txt K mg ea) : Cl P w K mg base 1 "_ends_of_words" (spEndsW K) := by
  have nd := sc__ends_of_words.nd
  refine cl_of T.d__ends_of_words sc__ends_of_words (fun vs H Q E h => ?_) (fun f cdv A outer s H vs Q E hr h => ?_)
  · obtain ⟨a, L, rfl, _⟩ := h
    rfl
  · obtain ⟨a, L, rfl, hA, hl, hz, q⟩ := h
    refine ⟨_, (pss_cons (ps_set (i := 1) nd rfl (.inl rfl) pe_dnewK)
      (pss_cons (ps_for PassesOwn.never rfl (pi_listK (K := K) (pv 0)) (pg_tup rfl (pgs_cons (pg_name (i := 2) nd rfl (.inl rfl)) (pgs_cons (pg_name (i := 3) nd rfl (.inl rfl)) pgs_nil)))
        (pss_one (ps_for PassesOwn.never rfl (pi_range1 rfl T.b_range (pa_cons (pe_op op_add (pe_callB call_len_str (by rfl) T.b_len PySem.boot_len (pa_cons (pv 3) pa_nil)) pe_int) pa_nil)) (pg_name (i := 4) nd rfl (.inl rfl))
            (pss_one (ps_for PassesOwn.never rfl (pi_range1 rfl T.b_range (pa_cons (pe_op op_add (pv 4) pe_int) pa_nil)) (pg_name (i := 5) nd rfl (.inl rfl))
                (pss_one (ps_expr (pe_bm PySem.F.plainAttrs_list PySem.F.slot_list_append PySem.F.type_list_append mt_append (pe_dsetd (pv 1) (pe_slice sl_str (pv 3) (po_some (pv 5)) (po_some (pv 4))) (pe_lst pa_nil) (by constructor <;> rfl)) (pa_cons (pe_tup (pa_cons (pv 2) (pa_cons (pv 4) pa_nil))) pa_nil)))))))))
      (pss_one (ps_ret (pv 1))))), ?_⟩
    have rl := refs_len L
    intro D nD
    have w0 : Vd H (upd H D (.dK (vkvs []))) D [] := ⟨upd_same, same_new nD, nD, List.nodup_nil, List.nodup_nil, (fun e m => nomatch m)⟩
    have o0 : VdOf [] (vo []) := ⟨fun z => Iff.rfl, (fun e m => nomatch m)⟩
    refine ⟨_, rfl, a, rfl, ⟨_, w0.sm.seq hA.1⟩, ?_⟩
    refine for_it (walk_list (K := K) (a := a) (xs := refs L)) (fun i σ H' => ∃ (T : VT) (O : OO) (y2 y3 y4 y5 : Option V), σ = [some (.ref a), some (.ref D), y2, y3, y4, y5] ∧ Vd H H' D T ∧ VdOf T (vo O) ∧ TpA H' O ∧ O.map (fun o => (o.1, o.2.2)) = ew ((L.map (·.2)).take i) ∧ O.length ≤ 1700 * i)
      ⟨[], [], none, none, none, none, rfl, w0, o0, (fun o m => nomatch m), rfl, Nat.le_refl _⟩ (fun i σ H' _ hW => ?_) (fun i x σ H1 H2 hi hW y => ?_) (fun σ H1 hW => ?_)
    · obtain ⟨T, O, _, _, _, _, _, hT, _⟩ := hW
      exact hT.sm.seq hA.1
    · obtain ⟨T, O, y2, y3, y4, y5, rfl, hT, hO, hP, eO, lO⟩ := hW
      obtain ⟨rfl, hx⟩ := y
      obtain ⟨t, ht, tm, rfl⟩ := refs_get hx
      have tl := hz t tm
      have tz : t.2.2.length ≤ sizeLine := Nat.le_trans tl (by decide)
      have ht2 : (L.map (·.2))[i]? = some t.2 := by rw [List.getElem?_map, ht]; rfl
      have tk := take_snoc ht2
      refine ⟨_, _, rfl, same_tup hT.sm (hA.2 t tm), rfl, _, _, rfl, _, _, rfl, rfl, ?_⟩
      repeat (first | refine ⟨_, rfl, ?_⟩ | refine ⟨rfl, ?_⟩ | refine ⟨_, _, rfl, rfl, ?_⟩ | refine ⟨_, _, _, rfl, rfl, ?_⟩)
      refine ⟨tz, ?_⟩
      repeat (first | refine ⟨_, rfl, ?_⟩ | refine ⟨rfl, ?_⟩ | refine ⟨_, _, rfl, rfl, ?_⟩ | refine ⟨_, _, _, rfl, rfl, ?_⟩)
      refine ⟨by omega, by omega, ?_⟩
      refine for_range (lo := 0) (n := ((t.2.2.length : Int) + 1).toNat) (fun s σ H' => ∃ (T : VT) (O : OO) (y4 y5 : Option V), σ = [some (.ref a), some (.ref D), some (.int t.2.1), some (.str t.2.2), y4, y5] ∧ Vd H H' D T ∧ VdOf T (vo O) ∧ TpA H' O ∧ O.map (fun o => (o.1, o.2.2)) = ew ((L.map (·.2)).take i) ++ ewQ t.2 s ∧ O.length ≤ 1700 * i + 41 * s)
        ⟨T, O, y4, y5, rfl, hT, hO, hP, by rw [eO]; simp [ewQ], lO⟩ (fun s σ H1 hs hW => ?_) (fun σ H1 hW => ?_)
      · obtain ⟨T, O, y4, y5, rfl, hT, hO, hP, eO, lO⟩ := hW
        have e0 : (0 : Int) + (s : Int) = (s : Int) := Int.zero_add _
        simp only [e0]
        have hs2 : s ≤ t.2.2.length := by omega
        repeat (first | refine ⟨_, rfl, ?_⟩ | refine ⟨rfl, ?_⟩ | refine ⟨_, _, rfl, rfl, ?_⟩ | refine ⟨_, _, _, rfl, rfl, ?_⟩)
        refine ⟨by omega, by omega, ?_⟩
        refine for_range (lo := 0) (n := ((s : Int) + 1).toNat) (fun m σ H' => ∃ (T : VT) (O : OO) (y5 : Option V), σ = [some (.ref a), some (.ref D), some (.int t.2.1), some (.str t.2.2), some (.int (s : Int)), y5] ∧ Vd H H' D T ∧ VdOf T (vo O) ∧ TpA H' O ∧ O.map (fun o => (o.1, o.2.2)) = ew ((L.map (·.2)).take i) ++ ewQ t.2 s ++ ewS t.2 s m ∧ O.length ≤ 1700 * i + 41 * s + m)
          ⟨T, O, y5, rfl, hT, hO, hP, by rw [eO]; simp [ewS], lO⟩ (fun m σ H2 hm hW => ?_) (fun σ H1 hW => ?_)
        · obtain ⟨T, O, y5, rfl, hT, hO, hP, eO, lO⟩ := hW
          have e0 : (0 : Int) + (m : Int) = (m : Int) := Int.zero_add _
          simp only [e0]
          have tlen : T.length ≤ 14000 := by
            have h1 := List.Nodup.length_le_of_subset hT.kd (fun z hz => (hO.mem z).mp hz)
            unfold vo at h1
            rw [List.length_map, List.length_map, List.length_map] at h1
            omega
          have hm2 : m ≤ s := by omega
          repeat (first | refine ⟨_, rfl, ?_⟩ | refine ⟨rfl, ?_⟩ | refine ⟨_, _, rfl, rfl, ?_⟩ | refine ⟨_, _, _, rfl, rfl, ?_⟩)
          refine ⟨.inl ⟨_, .inl hT.at_⟩, ?_⟩
          repeat (first | refine ⟨_, rfl, ?_⟩ | refine ⟨rfl, ?_⟩ | refine ⟨_, _, rfl, rfl, ?_⟩ | refine ⟨_, _, _, rfl, rfl, ?_⟩)
          refine ⟨tz, ?_⟩
          have ew1 : cutS t.2.2 (some (m : Int)) (some (s : Int)) = cutN t.2.2 m s := rfl
          rw [ew1]
          generalize hwd : cutN t.2.2 m s = wd
          refine ⟨Nat.zero_le _, fun l nl => ?_⟩
          have sl := same_new (o := .lst []) nl
          have h2 := hT.same sl
          have hP2 := hP.same sl
          have at2 : (upd H2 l (.lst [])) l = some (.lst []) := upd_same
          have nl0 := hT.sm.free nl
          have lD : l ≠ D := fun e => by rw [e, hT.at_] at nl; cases nl
          generalize eH : upd H2 l (.lst []) = H3 at h2 at2 hP2 ⊢
          have eO2 : ∀ u : Addr, (O ++ [(wd, u, t.2.1, s)]).map (fun o => (o.1, o.2.2)) = ew ((L.map (·.2)).take i) ++ ewQ t.2 s ++ ewS t.2 s (m + 1) := fun u => by
            rw [List.map_append, eO, ewS_succ, ← List.append_assoc, hwd]
            rfl
          have vo2 : ∀ u : Addr, vo (O ++ [(wd, u, t.2.1, s)]) = vo O ++ [(wd, V.ref u)] := fun u => by
            unfold vo
            rw [List.map_append]
            rfl
          refine ⟨vkvs T, .inr wd, h2.at_, rfl, ?_, fun v hv => ?_, fun hv => ?_⟩
          · unfold vkvs
            rw [List.length_map]
            exact Nat.lt_of_le_of_lt tlen (by decide)
          · by_cases c : wd ∈ T.map (·.1)
            · obtain ⟨e, he, ee⟩ := List.mem_map.mp c
              rw [← ee, h2.val_of he] at hv
              obtain rfl := Option.some.inj hv
              have hr := (h2.row e he).1
              refine ⟨.inl ⟨rfl, _, SqL.of hr⟩, ?_⟩
              repeat (first | refine ⟨_, rfl, ?_⟩ | refine ⟨rfl, ?_⟩ | refine ⟨_, _, rfl, rfl, ?_⟩ | refine ⟨_, _, _, rfl, rfl, ?_⟩)
              refine ⟨(by show 2 ≤ sizeLine; decide), fun u nu => ?_⟩
              have su := same_new (o := .tup [.int t.2.1, .int (s : Int)]) nu
              have h3 := h2.same su
              have hr3 := (h3.row e he).1
              refine ⟨e.2.1, _, _, rfl, rfl, hr3, ?_, ?_⟩
              · have h4 := congrArg List.length (hO.val e he)
                rw [List.length_map] at h4
                have h5 := List.length_filter_le (fun o : Str × V => decide (o.1 = e.1)) (vo O)
                unfold vo at h5
                rw [List.length_map] at h5
                unfold vo at h4
                exact Nat.lt_of_le_of_lt (by omega : _ ≤ 20000) (by decide)
              · refine ⟨vbump T e.1 (.ref u), O ++ [(wd, u, t.2.1, s)], _, rfl, h3.app he _, ?_, ?_, eO2 u, by rw [List.length_append]; show O.length + 1 ≤ _; omega⟩
                · rw [vo2, ee]
                  exact VdOf.vbump (fun y => (hO.mem y).trans ⟨.inl, fun z => z.elim id fun e2 => by rw [e2]; exact (hO.mem _).mp c⟩) hO.val
                · refine TpA.put (fun o m => ?_) hr3 (fun vs z => nomatch z)
                  rcases List.mem_append.mp m with m | m
                  · exact hP2.same su o m
                  · rw [List.mem_singleton.mp m]
                    exact upd_same
            · rw [vkvs_none c] at hv
              cases hv
          · have c : wd ∉ T.map (·.1) := fun c => by
              obtain ⟨e, he, ee⟩ := List.mem_map.mp c
              rw [← ee, h2.val_of he] at hv
              cases hv
            rw [vkvs_put c]
            have nn : wd ∉ (vo O).map (·.1) := fun z => c ((hO.mem _).mpr z)
            have hn : Vd H (upd H3 D (.dK (vkvs (T ++ [(wd, l, [])])))) D (T ++ [(wd, l, [])]) := by
              rw [← eH]
              exact hT.new c nl
            have hP4 : TpA (upd H3 D (.dK (vkvs (T ++ [(wd, l, [])])))) O := hP2.put h2.at_ (fun vs z => nomatch z)
            have he : (wd, l, ([] : List V)) ∈ T ++ [(wd, l, [])] := List.mem_append_right _ (List.mem_singleton.mpr rfl)
            have hr := (hn.row _ he).1
            generalize upd H3 D (.dK (vkvs (T ++ [(wd, l, [])]))) = H4 at hn hr hP4 ⊢
            refine ⟨.inl ⟨rfl, _, SqL.of hr⟩, ?_⟩
            repeat (first | refine ⟨_, rfl, ?_⟩ | refine ⟨rfl, ?_⟩ | refine ⟨_, _, rfl, rfl, ?_⟩ | refine ⟨_, _, _, rfl, rfl, ?_⟩)
            refine ⟨(by show 2 ≤ sizeLine; decide), fun u nu => ?_⟩
            have su := same_new (o := .tup [.int t.2.1, .int (s : Int)]) nu
            have h3 := hn.same su
            have hr3 := (h3.row _ he).1
            refine ⟨l, _, _, rfl, rfl, hr3, Nat.lt_of_lt_of_le Nat.zero_lt_one (by decide), ?_⟩
            refine ⟨vbump (T ++ [(wd, l, [])]) wd (.ref u), O ++ [(wd, u, t.2.1, s)], _, rfl, h3.app he _, ?_, ?_, eO2 u, by rw [List.length_append]; show O.length + 1 ≤ _; omega⟩
            · rw [vo2]
              refine VdOf.vbump (fun y => ?_) (fun e he => ?_)
              · rw [List.map_append, List.mem_append, hO.mem y]
                exact or_congr Iff.rfl List.mem_singleton
              · rcases List.mem_append.mp he with m | m
                · exact hO.val e m
                · rw [List.mem_singleton.mp m]
                  show [] = _
                  rw [List.filter_eq_nil_iff.mpr fun o ho hd => nn (by rw [← show o.1 = wd from of_decide_eq_true hd]; exact List.mem_map_of_mem (f := fun o : Str × V => o.1) ho)]
                  rfl
            · refine TpA.put (fun o m => ?_) hr3 (fun vs z => nomatch z)
              rcases List.mem_append.mp m with m | m
              · exact hP4.same su o m
              · rw [List.mem_singleton.mp m]
                exact upd_same
        · obtain ⟨T, O, y5, rfl, hT, hO, hP, eO, lO⟩ := hW
          refine ⟨T, O, _, _, rfl, hT, hO, hP, ?_, by omega⟩
          rw [eO, ewQ_succ, List.append_assoc]
          rfl
      · obtain ⟨T, O, y4, y5, rfl, hT, hO, hP, eO, lO⟩ := hW
        refine ⟨T, O, _, _, _, _, rfl, hT, hO, hP, ?_, by omega⟩
        rw [eO, tk, ew_snoc]
        rfl
    · obtain ⟨T, O, y2, y3, y4, y5, rfl, hT, hO, hP, eO, lO⟩ := hW
      rw [List.take_of_length_le (by rw [List.length_map, rl]; exact Nat.le_refl _)] at eO
      exact ⟨_, rfl, q D T O _ hT hO hP eO (by omega)⟩
end

end SH
set_option Elab.async false
set_option linter.all false
set_option maxRecDepth 100000
set_option maxHeartbeats 4000000
namespace SH
open PySem PySem.Spec PyProof.Rows L2
/-! the places of a word among all cut words -/
def whs (h : List (Int × Str)) : List (Int × Sam.Wd) := h.map fun q => (q.1, TL.tl q.2)
theorem tl_cutN {z : Str} {m s : Nat} (h1 : m ≤ s) (h2 : s ≤ z.length) : TL.tl (cutN z m s) = ((TL.tl z).take s).drop m := take_drop_cut h1 h2
theorem flat_if {α β : Type} (p : α → Bool) (f : α → β) (l : List α) : (l.flatMap fun x => if p x = true then [f x] else []) = (l.filter p).map f := by
  induction l with
  | nil => rfl
  | cons x r ih =>
    rw [List.flatMap_cons, ih]
    by_cases e : p x = true
    · rw [if_pos e, List.filter_cons_of_pos e]; rfl
    · rw [if_neg e, List.filter_cons_of_neg e]; rfl
theorem filter_one_of {α : Type} (p : Nat → Bool) (n k : Nat) (hk : k < n) (h : ∀ j, j < n → (p j = true ↔ j = k)) : (List.range n).filter p = [k] := by
  have e : (List.range n).filter p = (List.range n).filter fun j => decide (j = k) := List.filter_congr fun j hj => by
    have := h j (List.mem_range.mp hj)
    exact Bool.eq_iff_iff.mpr (this.trans decide_eq_true_iff.symm)
  rw [e]
  clear e h
  induction n with
  | zero => omega
  | succ n ih =>
    rw [List.range_succ, List.filter_append]
    by_cases c : k < n
    · rw [ih c, List.filter_cons_of_neg (by simp; omega)]; rfl
    · have e2 : n = k := by omega
      subst e2
      rw [List.filter_cons_of_pos (by simp), List.filter_eq_nil_iff.mpr fun x hx => by have := List.mem_range.mp hx; simp; omega]
      rfl
theorem ewS_of (q : Int × Str) {s : Nat} (hs : s ≤ q.2.length) (z : Str) : ((ewS q s (s + 1)).filter fun o => decide (o.1 = z)).map (·.2) = if ((TL.tl z).isSuffixOf ((TL.tl q.2).take s)) = true then [(q.1, s)] else [] := by
  have lq : (TL.tl q.2).length = q.2.length := (TL.len_tl _).symm
  have lz : (TL.tl z).length = z.length := (TL.len_tl _).symm
  have tk : ((TL.tl q.2).take s).length = s := by rw [List.length_take]; omega
  have ew : ∀ m, m ≤ s → (cutN q.2 m s = z ↔ ((TL.tl q.2).take s).drop m = TL.tl z) := fun m hm => by
    rw [← tl_cutN hm hs]
    exact ⟨fun e => congrArg TL.tl e, fun e => TL.ext_tl e⟩
  unfold ewS
  rw [List.filter_map, List.map_map]
  by_cases c : ((TL.tl z).isSuffixOf ((TL.tl q.2).take s)) = true
  · rw [if_pos c]
    have sf := List.isSuffixOf_iff_suffix.mp c
    have le := sf.length_le
    have key : (List.range (s + 1)).filter ((fun o : Str × Int × Nat => decide (o.1 = z)) ∘ fun start => (cutN q.2 start s, q.1, s)) = [s - z.length] := by
      refine filter_one_of (α := Nat) _ _ _ (by omega) fun j hj => ?_
      show decide (cutN q.2 j s = z) = true ↔ _
      rw [decide_eq_true_iff, ew j (by omega)]
      constructor
      · intro e
        have := congrArg List.length e
        rw [List.length_drop, tk, lz] at this
        omega
      · rintro rfl
        have e2 := List.suffix_iff_eq_drop.mp sf
        rw [tk, lz] at e2
        exact e2.symm
    rw [key]
    rfl
  · rw [if_neg c, List.filter_eq_nil_iff.mpr fun j hj => ?_]
    · rfl
    · show ¬ decide (cutN q.2 j s = z) = true
      rw [decide_eq_true_iff, ew j (by have := List.mem_range.mp hj; omega)]
      intro e
      exact c (List.isSuffixOf_iff_suffix.mpr (e ▸ List.drop_suffix _ _))
theorem ewQ_of (q : Int × Str) (z : Str) : ((ewQ q (q.2.length + 1)).filter fun o => decide (o.1 = z)).map (·.2) = (Sam.endsIn (TL.tl z) (TL.tl q.2)).map fun k => (q.1, k) := by
  unfold ewQ Sam.endsIn
  rw [List.filter_flatMap, List.map_flatMap, ← flat_if]
  have lq : (TL.tl q.2).length = q.2.length := (TL.len_tl _).symm
  rw [lq]
  have cg : ∀ (l : List Nat) (f g : Nat → List (Int × Nat)), (∀ x ∈ l, f x = g x) → l.flatMap f = l.flatMap g := fun l f g h => by
    induction l with
    | nil => rfl
    | cons x r ih => rw [List.flatMap_cons, List.flatMap_cons, h x (List.mem_cons_self ..), ih fun y m => h y (List.mem_cons_of_mem _ m)]
  exact cg _ _ _ fun s hs => ewS_of q (by have := List.mem_range.mp hs; omega) z
theorem ew_of (h : List (Int × Str)) (z : Str) : ((ew h).filter fun o => decide (o.1 = z)).map (·.2) = Sam.plc (whs h) (TL.tl z) := by
  induction h with
  | nil => rfl
  | cons q r ih =>
    have e1 : ew (q :: r) = ewQ q (q.2.length + 1) ++ ew r := rfl
    have e2 : Sam.plc (whs (q :: r)) (TL.tl z) = ((Sam.endsIn (TL.tl z) (TL.tl q.2)).map fun k => (q.1, k)) ++ Sam.plc (whs r) (TL.tl z) := rfl
    rw [e1, e2, List.filter_append, List.map_append, ewQ_of, ih]
theorem ew_mem {h : List (Int × Str)} {z : Str} : z ∈ (ew h).map (·.1) ↔ ∃ q, q ∈ Sam.plc (whs h) (TL.tl z) := by
  rw [← ew_of]
  constructor
  · intro m
    obtain ⟨o, ho, rfl⟩ := List.mem_map.mp m
    exact ⟨o.2, List.mem_map.mpr ⟨o, List.mem_filter.mpr ⟨ho, by simp⟩, rfl⟩⟩
  · rintro ⟨q, m⟩
    obtain ⟨o, ho, _⟩ := List.mem_map.mp m
    obtain ⟨h1, h2⟩ := List.mem_filter.mp ho
    exact List.mem_map.mpr ⟨o, h1, by simpa using h2⟩
/-- words by size, then as texts -/
theorem slx_of {W : List Str} (n : W.Nodup) (h : W.Pairwise leL) : (W.map TL.tl).Pairwise Sam.slx := by
  rw [List.pairwise_map]
  have both := List.pairwise_and_iff.mpr ⟨n, h⟩
  refine both.imp fun {x y} ⟨n, l⟩ => ?_
  rcases l with l | ⟨e, l⟩
  · exact .inl (by rw [← TL.len_tl, ← TL.len_tl]; exact l)
  · refine .inr ⟨by rw [← TL.len_tl, ← TL.len_tl]; exact e, ?_⟩
    have l : TL.tl x ≤ TL.tl y := l
    rcases List.le_iff_lt_or_eq.mp l with l | l
    · exact l
    · exact absurd (TL.ext_tl l) n

end SH
set_option Elab.async false
set_option linter.all false
set_option maxRecDepth 100000
set_option maxHeartbeats 4000000
namespace SH
open PySem PySem.Spec PyProof.Rows L2
/-! classes by a dict of places -/
theorem nd_sub {α : Type} [DecidableEq α] : ∀ (l m : List α), l.Nodup → (∀ x ∈ l, x ∈ m) → l.length ≤ m.length
  | [], _, _, _ => Nat.zero_le _
  | a :: l, m, nd, h => by
    have ha := h a (List.mem_cons_self ..)
    obtain ⟨n1, n2⟩ := List.nodup_cons.mp nd
    have := nd_sub l (m.erase a) n2 fun x hx => (List.mem_erase_of_ne (fun z => by rw [z] at hx; exact n1 hx)).mpr (h x (List.mem_cons_of_mem _ hx))
    have e := List.length_erase_of_mem ha
    have := List.length_pos_of_mem ha
    rw [List.length_cons]
    omega
abbrev AT := List (NK × Addr × Addr × Sam.Wd × List Sam.Wd)
def lastW (w : Sam.Wd) (ws : List Sam.Wd) : Sam.Wd := (w :: ws).getLast (List.cons_ne_nil _ _)
def aE (A : AT) : NE := A.map fun e => (e.1, e.2.1, V.ref e.2.2.1)
def aRow (A : AT) : List (Sam.Wd × Sam.Wd × NK) := A.map fun e => (e.2.2.2.1, lastW e.2.2.2.1 e.2.2.2.2, e.1)
structure AAt (H1 H : Hp) (A : AT) : Prop where
  row : ∀ e ∈ A, NkAt H e.1 e.2.1 ∧ H e.2.2.1 = some (.lst (strsV (e.2.2.2.1 :: e.2.2.2.2))) ∧ H1 e.2.2.1 = none
  nd : (A.map (·.2.2.1)).Nodup
theorem AAt.same {H1 H H' : Hp} {A : AT} (h : AAt H1 H A) (s : Same H H') : AAt H1 H' A := ⟨fun e m => ⟨(h.row e m).1.same s, s _ _ (h.row e m).2.1, (h.row e m).2.2⟩, h.nd⟩
theorem AAt.putD {H1 H : Hp} {A : AT} (h : AAt H1 H A) {P : Program} {w : World} {D : Addr} {E : NE} (hD : H D = some (dN P w D E)) (o : HO) : AAt H1 (upd H D o) A := ⟨fun e m => by
  obtain ⟨h1, h2, h3⟩ := h.row e m
  refine ⟨h1.but hD dn_ne fun b u n q => by rw [upd_ne n]; exact q, ?_, h3⟩
  rw [upd_ne (fun z => by rw [z, hD] at h2; unfold dN at h2; cases h2)]
  exact h2, h.nd⟩
theorem AAt.len {A : AT} : (aE A).length = A.length := List.length_map ..
theorem lastW_app (w : Sam.Wd) (ws : List Sam.Wd) (v : Sam.Wd) : lastW w (ws ++ [v]) = v := by
  have key : ∀ (l : List Sam.Wd) (h : l ++ [v] ≠ []), (l ++ [v]).getLast h = v := fun l h => by simp
  exact key (w :: ws) (by simp)
theorem AAt.app {H1 H : Hp} {A : AT} (h : AAt H1 H A) {j : Nat} {e : NK × Addr × Addr × Sam.Wd × List Sam.Wd} (he : A[j]? = some e) (v : Sam.Wd) : AAt H1 (upd H e.2.2.1 (.lst (strsV (e.2.2.2.1 :: e.2.2.2.2) ++ [.str (SX.S v)]))) (A.set j (e.1, e.2.1, e.2.2.1, e.2.2.2.1, e.2.2.2.2 ++ [v])) := by
  have em := List.mem_of_getElem? he
  obtain ⟨h1, h2, h3⟩ := h.row e em
  have ne : ∀ xs, (HO.lst (strsV (e.2.2.2.1 :: e.2.2.2.2))) ≠ .tup xs := fun xs z => by cases z
  have kp : ∀ b u, b ≠ e.2.2.1 → H b = some u → (upd H e.2.2.1 (.lst (strsV (e.2.2.2.1 :: e.2.2.2.2) ++ [.str (SX.S v)]))) b = some u := fun b u n q => by rw [upd_ne n]; exact q
  have hj : j < A.length := (List.getElem?_eq_some_iff.mp he).1
  have em2 : (A.set j (e.1, e.2.1, e.2.2.1, e.2.2.2.1, e.2.2.2.2 ++ [v])).map (·.2.2.1) = A.map (·.2.2.1) := by
    rw [List.map_set]
    refine List.ext_getElem? fun i => ?_
    by_cases c : j = i
    · subst c
      rw [List.getElem?_set_self (by rw [List.length_map]; exact hj), List.getElem?_map, he]; rfl
    · rw [List.getElem?_set_ne c]
  refine ⟨fun f m => ?_, by rw [em2]; exact h.nd⟩
  obtain ⟨i, hi, ef⟩ := List.getElem_of_mem m
  have hi2 : i < A.length := by rw [List.length_set] at hi; exact hi
  by_cases c : j = i
  · subst c
    rw [List.getElem_set_self] at ef
    subst ef
    refine ⟨h1.but h2 ne kp, ?_, h3⟩
    rw [upd_same]
    have : strsV (e.2.2.2.1 :: e.2.2.2.2) ++ [V.str (SX.S v)] = strsV (e.2.2.2.1 :: (e.2.2.2.2 ++ [v])) := by unfold strsV; rw [List.map_cons, List.map_cons, List.map_append]; rfl
    rw [this]
  · rw [List.getElem_set_ne c] at ef
    have fm : f ∈ A := ef ▸ List.getElem_mem hi2
    obtain ⟨g1, g2, g3⟩ := h.row f fm
    refine ⟨g1.but h2 ne kp, ?_, g3⟩
    rw [upd_ne fun z => c ?_]
    · exact g2
    · have nd := h.nd
      have a1 : (A.map (·.2.2.1))[j]? = some e.2.2.1 := by rw [List.getElem?_map, he]; rfl
      have a2 : (A.map (·.2.2.1))[i]? = some e.2.2.1 := by rw [List.getElem?_map, List.getElem?_eq_getElem hi2, ef]; exact congrArg some z
      exact (List.getElem?_inj (by rw [List.length_map]; exact hj) nd).mp (a1.trans a2.symm)
theorem AAt.new {H1 H : Hp} {A : AT} (h : AAt H1 H A) {k : NK} {a r : Addr} {v : Sam.Wd} (hk : NkAt H k a) (hr : H r = some (.lst (strsV [v]))) (n1 : H1 r = none) (nr : ∀ e ∈ A, e.2.2.1 ≠ r) : AAt H1 H (A ++ [(k, a, r, v, [])]) := by
  refine ⟨fun e m => ?_, ?_⟩
  · rcases List.mem_append.mp m with m | m
    · exact h.row e m
    · rw [List.mem_singleton.mp m]; exact ⟨hk, hr, n1⟩
  · rw [List.map_append, List.nodup_append]
    refine ⟨h.nd, by simp, fun x hx y hy z => ?_⟩
    have hy : y = r := by simpa using hy
    obtain ⟨e, he, rfl⟩ := List.mem_map.mp hx
    exact nr e he (z.trans hy)
theorem AAt.putL {H1 H : Hp} {A : AT} (h : AAt H1 H A) {r : Addr} {xs ys : List V} (hr : H r = some (.lst xs)) (n : ∀ e ∈ A, e.2.2.1 ≠ r) : AAt H1 (upd H r (.lst ys)) A := ⟨fun e m => by
  obtain ⟨h1, h2, h3⟩ := h.row e m
  refine ⟨h1.but hr (fun xs z => by cases z) fun b u n q => by rw [upd_ne n]; exact q, ?_, h3⟩
  rw [upd_ne (n e m)]
  exact h2, h.nd⟩
theorem aE_set {A : AT} {j : Nat} {f : NK × Addr × Addr × Sam.Wd × List Sam.Wd} (h : A[j]? = some f) (x : List Sam.Wd) : aE (A.set j (f.1, f.2.1, f.2.2.1, f.2.2.2.1, x)) = aE A := by
  unfold aE
  rw [List.map_set]
  have hj : j < A.length := (List.getElem?_eq_some_iff.mp h).1
  refine List.ext_getElem? fun i => ?_
  by_cases c : j = i
  · subst c
    rw [List.getElem?_set_self (by rw [List.length_map]; exact hj), List.getElem?_map, h]; rfl
  · rw [List.getElem?_set_ne c]
theorem aRow_set {A : AT} {j : Nat} (f : NK × Addr × Addr × Sam.Wd × List Sam.Wd) : aRow (A.set j f) = (aRow A).set j (f.2.2.2.1, lastW f.2.2.2.1 f.2.2.2.2, f.1) := by
  unfold aRow
  rw [List.map_set]
theorem atI_lastS (w : Sam.Wd) (ws : List Sam.Wd) : atI (strsV (w :: ws)) (-1) = some (.str (SX.S (lastW w ws))) := by
  have e : strsV (w :: ws) = strsV ((w :: ws).dropLast) ++ [.str (SX.S (lastW w ws))] :=
    (congrArg strsV (List.dropLast_concat_getLast (List.cons_ne_nil w ws)).symm).trans (List.map_append ..)
  rw [e]
  exact atI_last _ _
theorem hs_whs (L : PL) : whs (L.map (·.2)) = hsOf L := by
  unfold whs hsOf
  rw [List.map_map]
  rfl
section
variable {P : Program} {w : World} {K : PySem.W.Frag} {mg : Str → Option Value} {base : Heap} {ea : Ea}
def spKlass (K : PySem.W.Frag) : Sp := fun vs H Q _ => ∃ (h : Addr) (L : PL) (g : Sam.G) (rep : Nat → Sam.Wd), vs = [.ref h] ∧ HsAt K H h L ∧ HouseOk L ∧ Sam.Fin (Sam.txs (hsOf L)) g rep ∧
  ∀ H' l R, Same H H' → H l = none → H' l = some (.lst (rrefs R)) → RAt H' R → (R.map (·.2.2.2.1)).Nodup → (∀ q ∈ R, H q.2.2.2.1 = none ∧ q.2.2.2.1 ≠ l) → (L = [] → R = []) → (L ≠ [] → rowsOf R = (List.range g.n).map (fun k => (Sam.mw g rep k, rep k, Sam.plc (hsOf L) (rep k)))) → R.length ≤ 14000 → Q (.ref l) H'
theorem sc_classes : FnScope ["house", "ends", "alike", "word", "pairs", "words"] ["house"] (defScope s_classes) := ⟨rfl, rfl, rfl, by decide +kernel, rfl, by decide +kernel, by decide +kernel⟩
theorem ok_classes (T : Txt K mg ea) (c__ends_of_words : Cl P w K mg base 1 "_ends_of_words" (spEndsW K)) : Cl P w K mg base 2 "classes" (spKlass K) := by
  have nd := sc_classes.nd
  refine cl_of T.d_classes sc_classes (fun vs H Q E h => ?_) (fun f cdv A outer s H vs Q E hr h => ?_)
  · obtain ⟨hh, L, g, rep, rfl, _⟩ := h
    rfl
  · obtain ⟨hh, L, g, rep, rfl, hA, ok, F, q⟩ := h
    refine ⟨_, (pss_cons (ps_set (i := 1) nd rfl (.inl rfl) (C8.pe_c c__ends_of_words hr (by decide) (by rfl) (pa_cons (pv 0) pa_nil)))
      (pss_cons (ps_set (i := 2) nd rfl (.inl rfl) (pe_dnewN (P := P) (w := w)))
      (pss_cons (ps_for PassesOwn.never rfl (pi_listK (K := K) (pe_sortLenK (K := K) hr.units (by rfl) T.b_sorted (by rfl) T.b_len (pa_cons (pe_callB (cr_sortDS rfl hr.units) (by rfl) T.b_sorted (by decide +kernel) (pa_cons (pv 1) pa_nil)) pa_nil))) (pg_name (i := 3) nd rfl (.inl rfl))
        (pss_one (ps_expr (pe_bm PySem.F.plainAttrs_list PySem.F.slot_list_append PySem.F.type_list_append mt_append (pe_bmN (P := P) (w := w) PySem.F.plainAttrs_dict PySem.F.slot_dict_setdefault PySem.F.type_dict_setdefault (mt_setdN (P := P) (w := w) hr) (pv 2) (pa_cons (pe_callTy call_tuple_of (by rfl) T.b_tuple (by decide +kernel) (pa_cons (pe_dget (hu_of hr) (pv 1) (pv 3) (fun _ _ => rfl)) pa_nil)) (pa_cons (pe_lst pa_nil) pa_nil))) (pa_cons (pv 3) pa_nil)))))
      (pss_one (ps_ret (pe_lc (own := [("pairs", 4), ("words", 5)]) (g := (gTup K 2 (gCons (gName 4) (gCons (gName 5) gNil)))) rfl nd (pi_itemsN (P := P) (w := w) (pe_bm0N (P := P) (w := w) PySem.F.plainAttrs_dict PySem.F.slot_dict_items PySem.F.type_dict_items (mt_itemsN (P := P) (w := w)) (pv 2))) (blkOk_by (own := [("pairs", 4), ("words", 5)]) (N := ["house", "ends", "alike", "word", "pairs", "words"]) (sc := defScope s_classes) (by decide +kernel)) (fun _ _ _ _ _ => (pg_tup rfl (pgs_cons (pg_name (i := 4) nd rfl (.inl rfl)) (pgs_cons (pg_name (i := 5) nd rfl (.inl rfl)) pgs_nil)))) (fun _ _ _ _ _ => pts_nil) (fun _ _ _ _ _ => (pe_tup (pa_cons (pe_ix (ixl (K := K)) (pv 5) pe_int (fun _ _ => rfl)) (pa_cons (pe_ix (ixl (K := K)) (pv 5) (pe_un un_neg pe_int) (fun _ _ => rfl)) (pa_cons (pe_callTy (call_list_ofK (K := K)) (by rfl) T.b_list (by decide +kernel) (pa_cons (pv 4) pa_nil)) pa_nil))))))))))), ?_⟩
    have t40 : ∀ q ∈ L, q.2.2.length ≤ 40 := fun q hq => (ok.txt q hq).2
    refine ⟨_, rfl, hh, L, rfl, hA, ok.few, t40, fun D0 T1 O H1 v1 vo1 tp1 eO lO => ?_⟩
    -- its words
    have ndT := v1.kd
    have mT : ∀ z, z ∈ T1.map (·.1) ↔ ∃ q, q ∈ Sam.plc (hsOf L) (TL.tl z) := fun z => by
      rw [vo1.mem z, ← hs_whs L, ← ew_mem, ← eO]
      unfold vo
      rw [List.map_map, List.map_map]
      exact Iff.rfl
    have lT : T1.length ≤ 14000 := by
      refine Nat.le_trans ?_ lO
      rw [← List.length_map (f := (·.1)) (as := T1), ← List.length_map (f := (·.1)) (as := O)]
      refine nd_sub _ _ ndT fun z hz => ?_
      have := (vo1.mem z).mp hz
      unfold vo at this
      rw [List.map_map] at this
      exact this
    have z40 : ∀ z, z ∈ T1.map (·.1) → z.length ≤ 40 := fun z hz => by
      obtain ⟨⟨m, k⟩, hq⟩ := (mT z).mp hz
      obtain ⟨t, ht, hk, sf⟩ := Sam.mem_plc.mp hq
      have := sf.length_le
      rw [List.length_take] at this
      unfold hsOf at ht
      obtain ⟨y, hy, ey⟩ := List.mem_map.mp ht
      have := t40 y hy
      have e2 : TL.tl y.2.2 = t := congrArg Prod.snd ey
      rw [TL.len_tl]
      rw [TL.len_tl, e2] at this
      omega
    intro D nD
    have s2 := same_new (o := dN P w D []) nD
    have D0D : D0 ≠ D := ne_of_none v1.at_ nD
    refine ⟨_, rfl, D0, _, T1.map (·.1), rfl, .inl (s2 _ _ v1.at_), vkvs_keys T1, fun p1 np1 => ?_⟩
    have s3 := s2.trans (same_new (o := .lst (((T1.map (·.1)).mergeSort (PySem.W.dataLe false PyData.str)).map V.str)) np1)
    have srt := sorted2 ndT
    refine ⟨p1, _, rfl, SqL.of upd_same, fun z hz => ?_, fun p2 np2 => ?_⟩
    · exact Nat.le_trans (z40 z (((List.mergeSort_perm _ _).mem_iff).mp hz)) (by decide)
    have s4 := s3.trans (same_new (o := .lst ((((T1.map (·.1)).mergeSort (PySem.W.dataLe false PyData.str)).mergeSort fun x y => decide (x.length ≤ y.length)).map V.str)) np2)
    have lW : (((T1.map (·.1)).mergeSort (PySem.W.dataLe false PyData.str)).mergeSort fun x y => decide (x.length ≤ y.length)).length ≤ 14000 := by rw [List.length_mergeSort, List.length_mergeSort, List.length_map]; exact lT
    have hD3 := (same_new (o := .lst (((T1.map (·.1)).mergeSort (PySem.W.dataLe false PyData.str)).map V.str)) np1) _ _ (upd_same : (upd H1 D (dN P w D [])) D = _)
    have p2D : p2 ≠ D := (ne_of_none hD3 np2).symm
    have hD4 := (same_new (o := .lst ((((T1.map (·.1)).mergeSort (PySem.W.dataLe false PyData.str)).mergeSort fun x y => decide (x.length ≤ y.length)).map V.str)) np2) _ _ hD3
    have hp2 : (upd (upd (upd H1 D (dN P w D [])) p1 (.lst (((T1.map (·.1)).mergeSort (PySem.W.dataLe false PyData.str)).map V.str))) p2 (.lst ((((T1.map (·.1)).mergeSort (PySem.W.dataLe false PyData.str)).mergeSort fun x y => decide (x.length ≤ y.length)).map V.str))) p2 = _ := upd_same
    have np2' : H1 p2 = none := s3.free np2
    generalize ((T1.map (·.1)).mergeSort (PySem.W.dataLe false PyData.str)).mergeSort (fun x y => decide (x.length ≤ y.length)) = W at *
    generalize upd (upd (upd H1 D (dN P w D [])) p1 (.lst (((T1.map (·.1)).mergeSort (PySem.W.dataLe false PyData.str)).map V.str))) p2 (.lst (W.map V.str)) = H4 at *
    refine ⟨p2, rfl, ⟨_, SqL.of hp2⟩, ?_⟩
    have sW := slx_of srt.nd srt.pw
    have mW : L ≠ [] → ∀ u, u ∈ W.map TL.tl ↔ Sam.Inner (Sam.txs (hsOf L)) u := fun n u => by
      have hs0 : hsOf L ≠ [] := fun z => n (List.map_eq_nil_iff.mp z)
      rw [Sam.inner_plc hs0]
      constructor
      · intro m
        obtain ⟨z, hz, rfl⟩ := List.mem_map.mp m
        exact (mT z).mp ((srt.mem z).mp hz)
      · intro m
        refine List.mem_map.mpr ⟨SX.S u, (srt.mem _).mpr ((mT _).mpr ?_), TL.tl_mk u⟩
        rw [TL.tl_mk]
        exact m
    refine for_list (K := K) (a := p2) (xs := W.map V.str) (fun i σ H' => ∃ (A : AT) (y3 : Option V), σ = [some (.ref hh), some (.ref D0), some (.ref D), y3, none, none] ∧ Same H1 H' ∧ H' p2 = some (.lst (W.map V.str)) ∧ H' D = some (dN P w D (aE A)) ∧ AAt H1 H' A ∧ (L ≠ [] → Sam.Cls (hsOf L) g rep (W.map TL.tl) i (aRow A)) ∧ A.length ≤ i ∧ ∀ f ∈ A, f.2.2.2.2.length ≤ i ∧ f.2.2.1 ≠ p2)
      ⟨[], none, rfl, s4, hp2, hD4, ⟨fun e m => (nomatch m), List.nodup_nil⟩, fun _ => Sam.cls_start F, Nat.le_refl _, fun f m => (nomatch m)⟩ (fun i σ H' _ hW => ?_) (fun i x σ H' hx hW => ?_) (fun σ H' hW => ?_)
    · obtain ⟨A, y3, rfl, _, h1, _⟩ := hW
      exact SqL.of h1
    · obtain ⟨A, y3, rfl, sm, hp, hDD, hAA, hC, lA, lf⟩ := hW
      have iW : i < W.length := by
        have := (List.getElem?_eq_some_iff.mp hx).1
        rwa [List.length_map] at this
      have ew : W[i]? = some W[i] := List.getElem?_eq_getElem iW
      have zm := List.mem_of_getElem? ew
      generalize W[i] = z at ew zm
      rw [List.getElem?_map, ew] at hx
      have hx := Option.some.inj hx
      subst hx
      have zT := (srt.mem z).mp zm
      obtain ⟨e, eT, ez⟩ := List.mem_map.mp zT
      subst ez
      have v4 := v1.same sm
      have er := v4.row e eT
      have tp4 := tp1.same sm
      -- its places
      have ev := vo1.val e eT
      obtain ⟨R, eR⟩ : ∃ R : List (Addr × Int × Nat), R = (O.filter fun o => decide (o.1 = e.1)).map (·.2) := ⟨_, rfl⟩
      have rR : e.2.2 = R.map fun q => V.ref q.1 := by
        rw [ev, eR]
        unfold vo
        rw [List.filter_map, List.map_map, List.map_map]
        rfl
      have rP : ∀ q ∈ R, H' q.1 = some (.tup [.int q.2.1, .int (q.2.2 : Int)]) := fun q m => by
        rw [eR] at m
        obtain ⟨o, ho, rfl⟩ := List.mem_map.mp m
        exact tp4 o (List.mem_filter.mp ho).1
      have rK : R.map (·.2) = Sam.plc (hsOf L) (TL.tl e.1) := by
        rw [eR, List.map_map, ← hs_whs L, ← ew_of, ← eO, List.filter_map, List.map_map]
        rfl
      have hL0 : L ≠ [] := fun n => by
        obtain ⟨y, hy⟩ := (mT e.1).mp zT
        rw [n] at hy
        cases hy
      have hs0 : hsOf L ≠ [] := fun n => hL0 (List.map_eq_nil_iff.mp n)
      have asc : ((hsOf L).map (·.1)).Pairwise (· < ·) := by
        have := ok.asc
        unfold hsOf
        rw [List.map_map]
        exact this
      have C := hC hL0
      have ew2 : (W.map TL.tl)[i]? = some (TL.tl e.1) := by rw [List.getElem?_map, ew]; rfl
      obtain ⟨k0, k0n, ek0, cs1, cs2⟩ := C.step hs0 asc F sW (mW hL0) ew2
      have keyOf : ∀ (j : Nat) (f : NK × Addr × Addr × Sam.Wd × List Sam.Wd), A[j]? = some f → f.1 = Sam.plc (hsOf L) (rep j) ∧ j < g.n ∧ f.2.2.2.1 = Sam.mw g rep j := fun j f hf => by
        have hj : j < (aRow A).length := by unfold aRow; rw [List.length_map]; exact (List.getElem?_eq_some_iff.mp hf).1
        obtain ⟨lw, c1, _⟩ := C.row j hj
        unfold aRow at c1
        rw [List.getElem?_map, hf] at c1
        have c1 := Option.some.inj c1
        exact ⟨congrArg (fun z => z.2.2) c1, Nat.lt_of_lt_of_le hj C.le, congrArg (fun z => z.1) c1⟩
      have aRl : (aRow A).length = A.length := List.length_map ..
      have dg : DGet H' D0 (.str e.1) (some (.ref e.2.1)) := by
        have := DGet.k (k := .inr e.1) v4.at_
        rw [v4.val_of eT] at this
        exact this
      refine ⟨_, rfl, ⟨D, aE A, rfl, hDD⟩, _, rfl, _, rfl, D0, _, rfl, dg, e.2.1, e.2.2, rfl, .inl ⟨SqL.of er.1, fun l nl => ⟨Nat.zero_le _, fun lr nlr => ?_⟩⟩⟩
      have s5 := same_new (o := .tup e.2.2) nl
      have s6 := s5.trans (same_new (o := .lst []) nlr)
      have hl6 : (upd (upd H' l (.tup e.2.2)) lr (.lst [])) l = some (.tup (R.map fun q => V.ref q.1)) := by rw [← rR]; exact same_new nlr _ _ upd_same
      have hr6 : (upd (upd H' l (.tup e.2.2)) lr (.lst [])) lr = some (.lst []) := upd_same
      have nlr' : H1 lr = none := sm.free (s5.free nlr)
      have lrD : D ≠ lr := ne_of_none (s5 _ _ hDD) nlr
      have lrA : ∀ f ∈ A, f.2.2.1 ≠ lr := fun f m => ne_of_none (s5 _ _ (hAA.row f m).2.1) nlr
      have lrp : p2 ≠ lr := ne_of_none (s5 _ _ hp) nlr
      generalize upd (upd H' l (.tup e.2.2)) lr (.lst []) = H6 at s6 hl6 hr6 ⊢
      have sm6 := sm.trans s6
      have A6 := hAA.same s6
      have nk6 : NkAt H6 (Sam.plc (hsOf L) (TL.tl e.1)) l := ⟨R, hl6, fun q m => s6 _ _ (rP q m), rK⟩
      have D6 := s6 _ _ hDD
      have nkE : ∀ x ∈ aE A, NkAt H6 x.1 x.2.1 := fun x m => by
        obtain ⟨f, hf, rfl⟩ := List.mem_map.mp m
        exact (A6.row f hf).1
      have aEl : (aE A).length = A.length := List.length_map ..
      have lk : ∀ v, lookN (aE A) (Sam.plc (hsOf L) (TL.tl e.1)) = some v → ∃ (j : Nat) (f : NK × Addr × Addr × Sam.Wd × List Sam.Wd), A[j]? = some f ∧ j = k0 ∧ v = .ref f.2.2.1 := fun v hv => by
        unfold lookN at hv
        obtain ⟨x, hx, rfl⟩ := Option.map_eq_some_iff.mp hv
        have xm := List.mem_of_find?_eq_some hx
        have xk : x.1 = Sam.plc (hsOf L) (TL.tl e.1) := by
          have := List.find?_some hx
          exact of_decide_eq_true this
        obtain ⟨f, hf, rfl⟩ := List.mem_map.mp xm
        obtain ⟨j, hj⟩ := List.mem_iff_getElem?.mp hf
        obtain ⟨k1, k2, _⟩ := keyOf j f hj
        refine ⟨j, f, hj, (Sam.plc_cls hs0 asc F k2 k0n ek0).mp ?_, rfl⟩
        rw [← k1]
        exact xk
      have lkn : lookN (aE A) (Sam.plc (hsOf L) (TL.tl e.1)) = none → ¬ k0 < A.length := fun hv c => by
        have hf : A[k0]? = some A[k0] := List.getElem?_eq_getElem c
        obtain ⟨k1, _, _⟩ := keyOf k0 _ hf
        refine lookN_none hv (List.mem_map.mpr ⟨(A[k0].1, A[k0].2.1, .ref A[k0].2.2.1), List.mem_map.mpr ⟨A[k0], List.getElem_mem c, rfl⟩, ?_⟩)
        show A[k0].1 = _
        rw [k1]
        exact (Sam.plc_cls hs0 asc F k0n k0n ek0).mpr rfl
      have tzw : V.str e.1 = V.str (SX.S (TL.tl e.1)) := (str_S e.1).symm
      refine ⟨D, aE A, Sam.plc (hsOf L) (TL.tl e.1), l, .ref lr, rfl, rfl, D6, nkE, nk6, by rw [aEl]; exact szB (by omega), fun v hv => ?_, fun hv => ?_⟩
      · obtain ⟨j, f, hj, jk, rfl⟩ := lk v hv
        subst jk
        have jA : j < A.length := (List.getElem?_eq_some_iff.mp hj).1
        have fm := List.mem_of_getElem? hj
        obtain ⟨f1, f2, f3⟩ := A6.row f fm
        have wl : (strsV (f.2.2.2.1 :: f.2.2.2.2)).length ≤ 100000 := by
          have := (lf f fm).1
          unfold strsV
          rw [List.length_map, List.length_cons]
          omega
        refine ⟨.inl ⟨rfl, _, SqL.of f2⟩, _, rfl, f.2.2.1, _, _, rfl, rfl, f2, szB wl, ?_⟩
        rw [tzw]
        have hap := A6.app hj (TL.tl e.1)
        have fD : D ≠ f.2.2.1 := fun n => by rw [← n, D6] at f2; unfold dN at f2; cases f2
        have fp : p2 ≠ f.2.2.1 := (lf f fm).2.symm
        obtain ⟨k1, _, k3⟩ := keyOf j f hj
        refine ⟨A.set j _, _, rfl, same_mut sm6 f3, by rw [upd_ne fp]; exact s6 _ _ hp, ?_, hap, fun _ => ?_, by rw [List.length_set]; omega, fun f' m => ?_⟩
        · rw [upd_ne fD, aE_set hj]
          exact D6
        · rw [aRow_set]
          show Sam.Cls (hsOf L) g rep (W.map TL.tl) (i + 1) ((aRow A).set j (f.2.2.2.1, lastW f.2.2.2.1 (f.2.2.2.2 ++ [TL.tl e.1]), f.1))
          rw [lastW_app, k3, k1, (Sam.plc_cls hs0 asc F k0n k0n ek0).mpr rfl]
          exact cs1 (by rw [aRl]; exact jA)
        · rcases List.mem_or_eq_of_mem_set m with m | e9
          · exact ⟨by have := (lf f' m).1; omega, (lf f' m).2⟩
          · rw [e9]
            refine ⟨?_, (lf f fm).2⟩
            show (f.2.2.2.2 ++ [TL.tl e.1]).length ≤ i + 1
            have := (lf f fm).1
            rw [List.length_append]
            exact Nat.succ_le_succ this
      · have nlt := lkn hv
        have hr7 : (upd H6 D (dN P w D (aE A ++ [(Sam.plc (hsOf L) (TL.tl e.1), l, .ref lr)]))) lr = some (.lst []) := by rw [upd_ne lrD.symm]; exact hr6
        have nk7 : NkAt (upd H6 D (dN P w D (aE A ++ [(Sam.plc (hsOf L) (TL.tl e.1), l, .ref lr)]))) (Sam.plc (hsOf L) (TL.tl e.1)) l := nk6.but D6 dn_ne fun b u n q => by rw [upd_ne n]; exact q
        have A7 := A6.putD D6 (dN P w D (aE A ++ [(Sam.plc (hsOf L) (TL.tl e.1), l, .ref lr)]))
        have D7 : (upd H6 D (dN P w D (aE A ++ [(Sam.plc (hsOf L) (TL.tl e.1), l, .ref lr)]))) D = some (dN P w D (aE A ++ [(Sam.plc (hsOf L) (TL.tl e.1), l, .ref lr)])) := upd_same
        have p7 : (upd H6 D (dN P w D (aE A ++ [(Sam.plc (hsOf L) (TL.tl e.1), l, .ref lr)]))) p2 = some (.lst (W.map V.str)) := by rw [upd_ne p2D]; exact s6 _ _ hp
        have sm7 := same_mut (o := dN P w D (aE A ++ [(Sam.plc (hsOf L) (TL.tl e.1), l, .ref lr)])) sm6 nD
        generalize upd H6 D (dN P w D (aE A ++ [(Sam.plc (hsOf L) (TL.tl e.1), l, .ref lr)])) = H7 at *
        refine ⟨.inl ⟨rfl, _, SqL.of hr7⟩, _, rfl, lr, _, _, rfl, rfl, hr7, szB (Nat.zero_le _), ?_⟩
        rw [tzw]
        obtain ⟨_, _, this⟩ := cs2 (by rw [aRl]; exact nlt)
        refine ⟨A ++ [(Sam.plc (hsOf L) (TL.tl e.1), l, lr, TL.tl e.1, [])], _, rfl, same_mut sm7 nlr', by rw [upd_ne lrp]; exact p7, ?_, ?_, fun _ => ?_, by rw [List.length_append]; exact Nat.succ_le_succ lA, fun f' m => ?_⟩
        · rw [upd_ne lrD, D7]
          unfold aE
          rw [List.map_append]
          rfl
        · exact AAt.new (A7.putL hr7 lrA) (nk7.but hr7 (fun xs z => by cases z) fun b u n q => by rw [upd_ne n]; exact q) upd_same nlr' lrA
        · unfold aRow
          rw [List.map_append]
          exact this
        · rcases List.mem_append.mp m with m | m
          · exact ⟨by have := (lf f' m).1; omega, (lf f' m).2⟩
          · rw [List.mem_singleton.mp m]
            exact ⟨Nat.zero_le _, lrp.symm⟩
    · obtain ⟨A, y3, rfl, sm, hp, hDD, hAA, hC, lA, lf⟩ := hW
      have lW2 : A.length ≤ 14000 := by rw [List.length_map] at lA; omega
      refine ⟨_, rfl, ⟨D, aE A, rfl, hDD⟩, D, aE A, rfl, rfl, hDD, fun vp nvp => ?_⟩
      have s8 := same_new (o := L2.DX.itemsO vp D) nvp
      refine ⟨vp, D, aE A, rfl, upd_same, s8 _ _ hDD, fun o => ?_⟩
      have A8 := (hAA.same s8).putD (s8 _ _ hDD) (dF D o)
      have sm8 := same_mut (o := dF D o) (sm.trans s8) nD
      have D8 : (upd (upd H' vp (L2.DX.itemsO vp D)) D (dF D o)) D = some (dF D o) := upd_same
      generalize upd (upd H' vp (L2.DX.itemsO vp D)) D (dF D o) = H8 at *
      intro Da hDa
      have smH : Same H H8 := v1.sm.trans sm8
      refine lc_w walk_itemsN hDa (by rw [AAt.len]; omega) (fun H' e => e _ _ D8)
        (fun i acc H' => ∃ R : RT, acc = rrefs R ∧ RAt H' R ∧ rowsOf R = (aRow A).take i ∧ (∀ q ∈ R, H8 q.2.2.2.1 = none ∧ q.2.2.2.1 ≠ Da) ∧ (R.map (·.2.2.2.1)).Nodup)
        (fun H' _ => ⟨[], rfl, (fun q m => nomatch m), rfl, (fun q m => nomatch m), List.nodup_nil⟩) (fun i acc H2 H3 l hl b r => ?_) (fun i H x H' y => by obtain ⟨T, a, b, _, nT, rfl, _⟩ := y; exact same_new nT) (fun i y acc H2 H3 Qn Qf hi sm3 yy r at_ kn kf => ?_) (fun acc H3 sm3 at_ _ r => ?_)
      · obtain ⟨R, e1, e2, e3, e4, e5⟩ := r
        refine ⟨R, e1, fun q m => ?_, e3, e4, e5⟩
        obtain ⟨h1, h2, h3⟩ := e2 q m
        exact ⟨b _ _ (fun z => by rw [z, hl] at h1; cases h1) h1, b _ _ (e4 q m).2 h2, fun x mx => b _ _ (fun z => by have := h3 x mx; rw [z, hl] at this; cases this) (h3 x mx)⟩
      · obtain ⟨R, rfl, e2, e3, e4, e5⟩ := r
        obtain ⟨u, xk, xv, rfl, nu, rfl, ek, ev⟩ := yy
        rw [AAt.len] at hi
        have hf : A[i]? = some A[i] := List.getElem?_eq_getElem hi
        have fm := List.mem_of_getElem? hf
        generalize A[i] = f at hf fm
        have hE : (aE A)[i]? = some (f.1, f.2.1, V.ref f.2.2.1) := by unfold aE; rw [List.getElem?_map, hf]; rfl
        have ek : ((aE A)[i]?).map (fun e => V.ref e.2.1) = some xk := ek
        have ev : ((aE A)[i]?).map (fun e => e.2.2) = some xv := ev
        rw [hE] at ek ev
        cases ek
        cases ev
        obtain ⟨⟨Rk, f1, f1b, f1c⟩, f2, f3⟩ := (A8.same sm3).row f fm
        have a0 : atI (strsV (f.2.2.2.1 :: f.2.2.2.2)) 0 = some (.str (SX.S f.2.2.2.1)) := atI_nat (j := 0) rfl
        have a1 := atI_lastS f.2.2.2.1 f.2.2.2.2
        refine ⟨_, _, rfl, .inl (.inl upd_same), rfl, _, _, rfl, _, _, rfl, rfl, rfl, ?_⟩
        refine ⟨_, rfl, f.2.2.1, _, _, _, rfl, rfl, SqL.of f2, a0, _, rfl, _, rfl, f.2.2.1, _, _, _, rfl, rfl, SqL.of f2, a1, _, rfl, f.2.1, _, rfl, .inr (SqT.of f1), fun l nl => ⟨(by show 3 ≤ sizeLine; decide), fun t nt => ?_⟩⟩
        have s9 := same_new (o := .lst (Rk.map fun q => V.ref q.1)) nl
        have s10 := same_new (o := .tup [.str (SX.S f.2.2.2.1), .str (SX.S (lastW f.2.2.2.1 f.2.2.2.2)), .ref l]) nt
        have lDa : l ≠ Da := (ne_of_none at_ nl).symm
        refine kn _ _ (s9.trans s10) ⟨R ++ [(t, f.2.2.2.1, lastW f.2.2.2.1 f.2.2.2.2, l, Rk)], by unfold rrefs; rw [List.map_append]; rfl, fun q m => ?_, ?_, fun q m => ?_, ?_⟩
        · rcases List.mem_append.mp m with m | m
          · exact ((e2.same s9).same s10) q m
          · rw [List.mem_singleton.mp m]
            exact ⟨upd_same, s10 _ _ upd_same, fun x mx => s10 _ _ (s9 _ _ (f1b x mx))⟩
        · have hr : (aRow A)[i]? = some (f.2.2.2.1, lastW f.2.2.2.1 f.2.2.2.2, f.1) := by unfold aRow; rw [List.getElem?_map, hf]; rfl
          rw [List.take_add_one, hr, ← e3, ← f1c]
          unfold rowsOf
          rw [List.map_append]
          rfl
        · rcases List.mem_append.mp m with m | m
          · exact e4 q m
          · rw [List.mem_singleton.mp m]
            exact ⟨sm3.free nl, lDa⟩
        · rw [List.map_append, List.nodup_append]
          refine ⟨e5, by simp, fun a ha b hb z => ?_⟩
          have hb : b = l := by simpa using hb
          obtain ⟨q, hq, rfl⟩ := List.mem_map.mp ha
          have := (e2 q hq).2.1
          rw [z, hb, nl] at this
          cases this
      · obtain ⟨R, rfl, e2, e3, e4, e5⟩ := r
        have aRl : (aRow A).length = A.length := List.length_map ..
        rw [AAt.len, List.take_of_length_le (by omega)] at e3
        have Rl : R.length = A.length := by
          have := congrArg List.length e3
          rwa [rowsOf_len, aRl] at this
        refine q H3 Da R (smH.trans sm3) (smH.free hDa) at_ e2 e5 (fun q m => ⟨smH.free (e4 q m).1, (e4 q m).2⟩) (fun n => ?_) (fun n => ?_) (by omega)
        · have wz : W = [] := List.eq_nil_iff_forall_not_mem.mpr fun z hz => by
            obtain ⟨y, hy⟩ := (mT z).mp ((srt.mem z).mp hz)
            rw [n] at hy
            cases hy
          rw [wz] at lA
          exact List.eq_nil_of_length_eq_zero (by rw [Rl]; exact Nat.le_zero.mp lA)
        · have hs0 : hsOf L ≠ [] := fun z => n (List.map_eq_nil_iff.mp z)
          have asc : ((hsOf L).map (·.1)).Pairwise (· < ·) := by
            have := ok.asc
            unfold hsOf
            rw [List.map_map]
            exact this
          have C := hC n
          have e9 : (W.map V.str).length = (W.map TL.tl).length := by rw [List.length_map, List.length_map]
          rw [e9] at C
          rw [e3]
          exact C.done hs0 asc F sW (mW n)
end

end SH
set_option Elab.async false
set_option linter.all false
set_option maxRecDepth 100000
set_option maxHeartbeats 4000000
namespace SH
open PySem PySem.Spec PyProof.Rows L2
def okW (w : Sam.Wd) : Prop := PyData.strOk (SX.S w) = true
theorem okW_inner {L : PL} (ok : HouseOk L) {w : Sam.Wd} (h : Sam.Inner (Sam.txs (hsOf L)) w) : okW w := by
  have : ∀ c ∈ w, c < 127 := fun c hc => by
    obtain ⟨t, ht, x, y, e⟩ := h
    rcases List.mem_cons.mp ht with z | m
    · rw [z] at e
      have := congrArg List.length e
      simp at this
      have : w = [] := List.eq_nil_of_length_eq_zero (by omega)
      rw [this] at hc
      cases hc
    · obtain ⟨q, hq, rfl⟩ := List.mem_map.mp m
      obtain ⟨t, ht2, rfl⟩ := List.mem_map.mp hq
      have hl := (ok.txt t ht2).1
      refine okc_lt (List.all_eq_true.mp hl c ?_)
      have : c ∈ TL.tl t.2.2 := by
        have e : TL.tl t.2.2 = x ++ w ++ y := e
        rw [e]
        exact List.mem_append_left _ (List.mem_append_right _ hc)
      exact this
  unfold okW PyData.strOk
  rw [← Array.all_toList]
  refine List.all_eq_true.mpr fun c hc => ?_
  have hc' : c ∈ w := by
    have e : TL.tl (SX.S w) = w := TL.tl_mk w
    rw [← e]
    exact hc
  have := this c hc'
  exact decide_eq_true (by omega)

section
variable {P : Program} {w : World} {K : PySem.W.Frag} {mg : Str → Option Value} {base : Heap} {ea : Ea}
theorem cl_weak {x : Str} {k : Nat} {sp sp' : Sp} (c : Cl P w K mg base k x sp) (h : ∀ vs H Q E, sp' vs H Q E → sp vs H Q E) : Cl P w K mg base k x sp' := by
  obtain ⟨f, fd, ps, ds, F, h1, h2, h3, h4⟩ := c.ex
  exact ⟨f, fd, ps, ds, ⟨fun vs H Q E z => F.len vs H Q E (h vs H Q E z), fun A outer s H args us vs Q E hr env b r z => F.run A outer s H args us vs Q E hr env b r (h vs H Q E z)⟩, h1, h2, h3, h4⟩
def spCls2 (K : PySem.W.Frag) : Sp := fun vs H Q _ => ∃ (h : Addr) (L : PL) (g : Sam.G) (rep : Nat → Sam.Wd), vs = [.ref h] ∧ HsAt K H h L ∧ HouseOk L ∧ Sam.Fin (Sam.txs (hsOf L)) g rep ∧
  ∀ H' l R, Same H H' → H l = none → H' l = some (.lst (rrefs R)) → RAt H' R → (L = [] → rowsOf R = []) → (L ≠ [] → rowsOf R = (List.range g.n).map (fun k => (Sam.mw g rep k, rep k, Sam.plc (hsOf L) (rep k)))) → Q (.ref l) H'
theorem cls2 (c : Cl P w K mg base 3 "_law_classes" (spClasses K)) : Cl P w K mg base 3 "_law_classes" (spCls2 K) := cl_weak c fun vs H Q E h => by
  obtain ⟨h, L, g, rep, rfl, hA, ok, F, q⟩ := h
  exact ⟨h, L, rfl, hA, ok, fun n H' l s nl at_ => q H' l [] s nl at_ (fun _ m => nomatch m) (fun _ => rfl) (fun z => absurd n z), fun n => ⟨g, rep, F, fun H' l R s nl at_ r e _ => q H' l R s nl at_ r (fun z => absurd z n) fun _ => e⟩⟩
/-! rows as data -/
def dK3 (r : Sam.Wd × Sam.Wd × NK) : PyData := .tuple [.str (SX.S r.1), .str (SX.S r.2.1), dPts r.2.2]
def dRows (rs : List (Sam.Wd × Sam.Wd × NK)) : PyData := .list (rs.map dK3)
theorem dp_rowsAll {H : Hp} : ∀ {R : RT}, RAt H R → DpAll K H (rrefs R) ((rowsOf R).map dK3)
  | [], _ => .nil
  | q :: r, h => by
    obtain ⟨h1, h2, h3⟩ := h q (List.mem_cons_self ..)
    exact .cons (.tup (.inl (.inl h1)) (.cons (.str _) (.cons (.str _) (.cons (dp_pts h2 h3) .nil)))) (dp_rowsAll fun x m => h x (List.mem_cons_of_mem _ m))
theorem dp_rows {H : Hp} {l : Addr} {R : RT} (h : H l = some (.lst (rrefs R))) (r : RAt H R) : Dp K H (.ref l) (dRows (rowsOf R)) := .lst (SqL.of h) (dp_rowsAll r)
theorem dRows_lay : ∀ rs : List (Sam.Wd × Sam.Wd × NK), (∀ r ∈ rs, okW r.1 ∧ okW r.2.1) → PyData.canLayAll0 (rs.map dK3) = true
  | [], _ => rfl
  | r :: rs, h => by
    rw [List.map_cons, PyData.canLayAll0, dRows_lay rs fun x m => h x (List.mem_cons_of_mem _ m)]
    obtain ⟨h1, h2⟩ := h r (List.mem_cons_self ..)
    have e3 : (dPts r.2.2).canLay0 = true := dPts_lay _
    show ((PyData.strOk _ && (PyData.strOk _ && ((dPts _).canLay0 && true))) && true) = true
    rw [h1, h2, e3]
    rfl
theorem dRows_depth : ∀ rs : List (Sam.Wd × Sam.Wd × NK), PyData.depthAll (rs.map dK3) ≤ 3
  | [] => Nat.zero_le _
  | r :: rs => by
    rw [List.map_cons, PyData.depthAll]
    have := dRows_depth rs
    have h1 := dPts_deep r.2.2
    have h2 : (dK3 r).depth ≤ 3 := by
      show max 0 (max 0 (max (PyData.depthAll _ + 1) 0)) + 1 ≤ 3
      omega
    omega
theorem dRows_ok {rs : List (Sam.Wd × Sam.Wd × NK)} (h : ∀ r ∈ rs, okW r.1 ∧ okW r.2.1) : SeqAt.shaped (dRows rs) = true ∧ PyData.eqv (dRows rs) (dRows rs) = true := by
  have e1 : (dRows rs).canLay0 = true := dRows_lay rs h
  have e2 : (dRows rs).depth ≤ 64 := by
    show PyData.depthAll _ + 1 ≤ 64
    have := dRows_depth rs
    omega
  refine ⟨?_, SeqAt.eqv_refl _ e1⟩
  unfold SeqAt.shaped
  rw [e1, decide_eq_true e2]
  rfl
def spLaw (K : PySem.W.Frag) : Sp := fun vs H Q _ => ∃ (a : Addr) (ns : List Int), vs = [.ref a] ∧ SqL K H a (ns.map V.int) ∧ ns.length ≤ 63 ∧ ∀ H', Q (.bl true) H'
theorem sc_law : FnScope ["script", "draws", "house", "kept", "due", "told", "shortest", "longest", "pairs", "size"] ["script"] (defScope s_law) := ⟨rfl, rfl, rfl, by decide +kernel, rfl, by decide +kernel, by decide +kernel⟩
theorem ok_law (T : Txt K mg ea) {f : Addr} {fd : FuncData} (F0 : Fun K "law" "law" s_law f fd) (c__law_draws : Cl P w K mg base 1 "_law_draws" (spDraws K)) (c__law_house : Cl P w K mg base 3 "_law_house" (spHouse K)) (c__law_classes : Cl P w K mg base 3 "_law_classes" (spCls2 K)) (c_classes : Cl P w K mg base 2 "classes" (spKlass K)) (c__law_ends : Cl P w K mg base 2 "_law_ends" (spEnds K)) :
    FnOk P w K mg base CX0 8 f fd ["script"] (spLaw K) := by
  have nd := sc_law.nd
  refine F0.ok sc_law (fun vs H Q E h => ?_) (fun cdv A outer s H vs Q E hr h => ?_)
  · obtain ⟨a, ns, rfl, _⟩ := h
    rfl
  · obtain ⟨a, ns, rfl, hS, hl, q⟩ := h
    refine ⟨_, (pss_cons (ps_set (i := 1) nd rfl (.inl rfl) (C8.pe_c c__law_draws hr (by decide) (by rfl) (pa_cons (pv 0) pa_nil)))
      (pss_cons (ps_set (i := 2) nd rfl (.inl rfl) (C8.pe_c c__law_house hr (by decide) (by rfl) (pa_cons (pv 1) (pa_cons pe_int (pa_cons pe_int (pa_cons pe_int pa_nil))))))
      (pss_cons (ps_set (i := 3) nd rfl (.inl rfl) (pe_callTy call_list_of (by rfl) T.b_list (by decide +kernel) (pa_cons (pv 2) pa_nil)))
      (pss_cons (ps_set (i := 4) nd rfl (.inl rfl) (C8.pe_c c__law_classes hr (by decide) (by rfl) (pa_cons (pv 3) pa_nil)))
      (pss_cons (ps_set (i := 5) nd rfl (.inl rfl) (C8.pe_c c_classes hr (by decide) (by rfl) (pa_cons (pv 2) pa_nil)))
      (pss_cons (ps_if (PW.pt (pw_or (pt_not (pt_val (pe_callB call_isi (by rfl) T.b_isinstance (by decide +kernel) (pa_cons (pv 5) (pa_cons (pe_bltn (v := .ty "list") (by rfl) T.b_list (by decide +kernel) rfl) pa_nil))))) (pw_or (pt_cmpR (op_neDK (K := K) hr.units) (pv 5) (pv 4) (nomark _)) (pw_or1 (pt_cmpR (op_neDK (K := K) hr.units) (pv 2) (pv 3) (nomark _))))))
        (pss_one (ps_ret pe_bl))
        pss_nil)
      (pss_cons (ps_for PassesOwn.never rfl (pi_listK (K := K) (pv 5)) (pg_tup rfl (pgs_cons (pg_name (i := 6) nd rfl (.inl rfl)) (pgs_cons (pg_name (i := 7) nd rfl (.inl rfl)) (pgs_cons (pg_name (i := 8) nd rfl (.inl rfl)) pgs_nil))))
        (pss_cons (ps_if (PW.pt (pw_or (pt_not (pt_val (pe_callB call_isi (by rfl) T.b_isinstance (by decide +kernel) (pa_cons (pv 8) (pa_cons (pe_bltn (v := .ty "list") (by rfl) T.b_list (by decide +kernel) rfl) pa_nil))))) (pw_or1 (pt_cmpR op_ne (pe_slice sl_str (pv 7) (po_some (pe_op op_sub (pe_callB call_len_str (by rfl) T.b_len PySem.boot_len (pa_cons (pv 7) pa_nil)) (pe_callB call_len_str (by rfl) T.b_len PySem.boot_len (pa_cons (pv 6) pa_nil)))) po_none) (pv 6) (nomark _)))))
            (pss_one (ps_ret pe_bl))
            pss_nil)
          (pss_cons (ps_for PassesOwn.never rfl (pi_range2 rfl T.b_range (pa_cons (pe_callB call_len_str (by rfl) T.b_len PySem.boot_len (pa_cons (pv 6) pa_nil)) (pa_cons (pe_op op_add (pe_callB call_len_str (by rfl) T.b_len PySem.boot_len (pa_cons (pv 7) pa_nil)) pe_int) pa_nil))) (pg_name (i := 9) nd rfl (.inl rfl))
            (pss_one (ps_if (pt_cmpR (op_neDK (K := K) hr.units) (C8.pe_c c__law_ends hr (by decide) (by rfl) (pa_cons (pv 3) (pa_cons (pe_slice sl_str (pv 7) (po_some (pe_op op_sub (pe_callB call_len_str (by rfl) T.b_len PySem.boot_len (pa_cons (pv 7) pa_nil)) (pv 9))) po_none) pa_nil))) (pv 8) (nomark _))
                (pss_one (ps_ret pe_bl))
                pss_nil)))
          (pss_one (ps_expr (pe_bm PySem.F.plainAttrs_list PySem.F.slot_list_append PySem.F.type_list_append mt_append (pv 8) (pa_cons pe_int pa_nil)))))))
      (pss_cons (ps_expr (pe_bm PySem.F.plainAttrs_list PySem.F.slot_list_append PySem.F.type_list_append mt_append (pv 5) (pa_cons pe_int pa_nil)))
      (pss_one (ps_ret (pe_cmpR (op_eqDK (K := K) hr.units) (C8.pe_c c_classes hr (by decide) (by rfl) (pa_cons (pv 2) pa_nil)) (pv 4) (nomark _)))))))))))), ?_⟩
    refine ⟨_, rfl, a, ns, rfl, hS, hl, fun dr ds H1 s1 nd1 at1 hD => ?_⟩
    refine ⟨_, rfl, dr, ds, 4, 4, 8, rfl, SqL.of at1, hD, by omega, by omega, by omega, by omega, fun hp L H2 s2 nh at2 hpr hlen hh => ?_⟩
    have ok := houseOk_of hh (by omega) (by omega) (by
      have := Nat.mul_le_mul_right 8 hlen
      omega)
    have lets : LetAll (L.map (·.2)) := fun q hq => by
      obtain ⟨t, ht, rfl⟩ := List.mem_map.mp hq
      exact (ok.txt t ht).1
    refine ⟨_, rfl, hp, _, rfl, .inl (SqL.of at2), fun kp nk => ?_⟩
    have s4 := same_new (o := .lst (refs L)) nk
    have hA3 : HsAt K (upd H2 kp (.lst (refs L))) hp L := ⟨SqL.of (s4 _ _ at2), hpr.same s4⟩
    have hK3 : HsAt K (upd H2 kp (.lst (refs L))) kp L := ⟨SqL.of upd_same, hpr.same s4⟩
    generalize upd H2 kp (.lst (refs L)) = H3 at *
    obtain ⟨g, rep, F⟩ := Sam.fin_ex (hsOf L)
    have I := F.inv
    have okw : ∀ k, k < g.n → okW (Sam.mw g rep k) ∧ okW (rep k) := fun k hk => ⟨okW_inner ok (I.mw_ext hk).inner, okW_inner ok (I.mem hk).inner⟩
    refine ⟨_, rfl, kp, L, g, rep, rfl, hK3, ok, F, fun H4 ul U s34 nul atU rU u0 u1 => ?_⟩
    have hA4 := hA3.same s34
    have hK4 := hK3.same s34
    -- the rows that are due
    have rows : ∀ R : RT, (L = [] → rowsOf R = []) → (L ≠ [] → rowsOf R = (List.range g.n).map (fun k => (Sam.mw g rep k, rep k, Sam.plc (hsOf L) (rep k)))) → rowsOf R = rowsOf U ∧ ∀ r ∈ rowsOf R, ∃ k, k < g.n ∧ r = (Sam.mw g rep k, rep k, Sam.plc (hsOf L) (rep k)) := fun R r0 r1 => by
      by_cases n : L = []
      · rw [r0 n, u0 n]
        exact ⟨rfl, fun r m => nomatch m⟩
      · rw [r1 n, u1 n]
        refine ⟨rfl, fun r m => ?_⟩
        obtain ⟨k, hk, rfl⟩ := List.mem_map.mp m
        exact ⟨k, List.mem_range.mp hk, rfl⟩
    obtain ⟨_, uR⟩ := rows U u0 u1
    obtain ⟨shU, evU⟩ := dRows_ok (rs := rowsOf U) fun r m => by
      obtain ⟨k, hk, rfl⟩ := uR r m
      exact okw k hk
    refine ⟨_, rfl, hp, L, g, rep, rfl, hA4, ok, F, fun H5 tl R s45 ntl atT rT ndR nwR r0 r1 lR => ?_⟩
    obtain ⟨eRU, rR⟩ := rows R (fun n => by rw [r0 n]; rfl) r1
    have hA5 := hA4.same s45
    have hK5 := hK4.same s45
    have rU5 := rU.same s45
    have atU5 := s45 _ _ atU
    refine ⟨_, rfl, _, _, _, _, true, rfl, .ty "list", .base (.lst atT), kit_ty (by decide +kernel), _, rfl, iteF ?_⟩
    have dT := dp_rows (K := K) atT rT
    rw [eRU] at dT
    refine ⟨_, rfl, _, rfl, _, _, dT, dp_rows atU5 rU5, shU, shU, ?_⟩
    rw [evU]
    refine ⟨_, rfl, iteF ?_⟩
    refine ⟨_, rfl, _, rfl, _, _, dp_house hA5, dp_house hK5, dH_shaped lets, dH_shaped lets, ?_⟩
    rw [dH_refl lets]
    refine ⟨_, rfl, iteF ?_⟩
    have Rl : (rrefs R).length = R.length := rrefs_len R
    refine ⟨_, rfl, tl, rfl, ⟨_, SqL.of atT⟩, ?_⟩
    refine for_list (K := K) (a := tl) (xs := rrefs R) (fun i σ H' => ∃ (y6 y7 y8 y9 : Option V), σ = [some (.ref a), some (.ref dr), some (.ref hp), some (.ref kp), some (.ref ul), some (.ref tl), y6, y7, y8, y9] ∧ Same H4 H' ∧ H' tl = some (.lst (rrefs R)) ∧ (∀ q ∈ R, H' q.1 = some (.tup [.str (SX.S q.2.1), .str (SX.S q.2.2.1), .ref q.2.2.2.1]) ∧ PAt H' q.2.2.2.2) ∧ (∀ k q, i ≤ k → R[k]? = some q → H' q.2.2.2.1 = some (.lst (prefs q.2.2.2.2))))
      ⟨none, none, none, none, rfl, s45, atT, fun q m => ⟨(rT q m).1, (rT q m).2.2⟩, fun k q _ e => (rT q (List.mem_of_getElem? e)).2.1⟩ (fun i σ H' _ hW => ?_) (fun i x σ H' hx hW => ?_) (fun σ H' hW => ?_)
    · obtain ⟨_, _, _, _, rfl, _, h1, _⟩ := hW
      exact SqL.of h1
    · obtain ⟨y6, y7, y8, y9, rfl, sm, hT, hR, hP⟩ := hW
      have iR : i < R.length := by
        have := (List.getElem?_eq_some_iff.mp hx).1
        rwa [Rl] at this
      have eR : R[i]? = some R[i] := List.getElem?_eq_getElem iR
      have qm := List.mem_of_getElem? eR
      generalize R[i] = q' at eR qm
      unfold rrefs at hx
      rw [List.getElem?_map, eR] at hx
      have hx := Option.some.inj hx
      subst hx
      obtain ⟨h1, h3⟩ := hR q' qm
      have h2 := hP i q' (Nat.le_refl _) eR
      have qr : (q'.2.1, q'.2.2.1, q'.2.2.2.2.map (·.2)) ∈ rowsOf R := List.mem_map.mpr ⟨q', qm, rfl⟩
      obtain ⟨k, kn, ek⟩ := rR _ qr
      have e1 : q'.2.1 = Sam.mw g rep k := congrArg (fun z => z.1) ek
      have e2 : q'.2.2.1 = rep k := congrArg (fun z => z.2.1) ek
      have e3 : q'.2.2.2.2.map (·.2) = Sam.plc (hsOf L) (rep k) := congrArg (fun z => z.2.2) ek
      rw [e1, e2] at h1
      have in40 : ∀ {u : Sam.Wd}, Sam.Inner (Sam.txs (hsOf L)) u → u.length ≤ 40 := fun {u} h => inner_len (fun x hx => by
        rcases List.mem_cons.mp hx with z | m
        · rw [z]; exact Nat.zero_le _
        · obtain ⟨y, hy, rfl⟩ := List.mem_map.mp m
          obtain ⟨t, ht, rfl⟩ := List.mem_map.mp hy
          show (TL.tl t.2.2).length ≤ 40
          rw [tlen]
          exact (ok.txt t ht).2) h
      have r40 := in40 (I.mem kn).inner
      have mwl := I.mw_len kn
      have lle := I.least_le kn
      have tr : TL.tl (SX.S (rep k)) = rep k := TL.tl_mk _
      have tm : TL.tl (SX.S (Sam.mw g rep k)) = Sam.mw g rep k := TL.tl_mk _
      have lr : (SX.S (rep k)).length = (rep k).length := by rw [TL.len_tl, tr]
      have lm : (SX.S (Sam.mw g rep k)).length = Sam.leastSz g k := by rw [TL.len_tl, tm, mwl]
      have lrs : (SX.S (rep k)).length ≤ sizeLine := by rw [lr]; exact Nat.le_trans r40 (by decide)
      have lms : (SX.S (Sam.mw g rep k)).length ≤ sizeLine := by rw [lm]; exact Nat.le_trans (Nat.le_trans lle r40) (by decide)
      refine ⟨_, _, rfl, .inl (.inl h1), rfl, _, _, rfl, _, _, rfl, _, _, rfl, rfl, ?_⟩
      refine ⟨_, rfl, _, _, _, _, true, rfl, .ty "list", .base (.lst h2), kit_ty (by decide +kernel), _, rfl, iteF ?_⟩
      have cut : ∀ n : Nat, n ≤ (rep k).length → cutS (SX.S (rep k)) (some (((SX.S (rep k)).length : Int) - (n : Int))) none = SX.S ((rep k).drop ((rep k).length - n)) := fun n hn => by
        rw [lr, show ((rep k).length : Int) - (n : Int) = (((rep k).length - n : Nat) : Int) by omega]
        refine TL.ext_tl ?_
        rw [cuts_drop, tr, TL.tl_mk]
      refine ⟨_, rfl, _, rfl, _, rfl, lrs, _, rfl, _, rfl, lms, ?_⟩
      refine ⟨_, _, rfl, rfl, _, rfl, SX.S (rep k), rfl, lrs, ?_⟩
      rw [lm, cut _ lle]
      refine ⟨_, rfl, rfl, _, rfl, ite2 (fun e => by simp at e; exact absurd rfl e) (fun _ => ?_)⟩
      refine ⟨_, rfl, _, rfl, lms, _, rfl, _, rfl, lrs, _, _, rfl, rfl, _, _, rfl, ⟨by omega, by omega, by omega, by omega⟩, ?_⟩
      rw [lm, lr]
      refine for_range (lo := (Sam.leastSz g k : Int)) (n := (((rep k).length : Int) + 1 - (Sam.leastSz g k : Int)).toNat) (fun j σ H2 => ∃ y9 : Option V, σ = [some (.ref a), some (.ref dr), some (.ref hp), some (.ref kp), some (.ref ul), some (.ref tl), some (.str (SX.S (Sam.mw g rep k))), some (.str (SX.S (rep k))), some (.ref q'.2.2.2.1), y9] ∧ Same H' H2)
        ⟨y9, rfl, Same.refl _⟩ (fun j σ H2 hj hW => ?_) (fun σ H2 hW => ?_)
      · obtain ⟨y9, rfl, sm2⟩ := hW
        have ej : (Sam.leastSz g k : Int) + (j : Int) = ((Sam.leastSz g k + j : Nat) : Int) := by omega
        simp only [ej]
        obtain ⟨m, em⟩ : ∃ m, m = Sam.leastSz g k + j := ⟨_, rfl⟩
        rw [← em]
        have hm : m ≤ (rep k).length := by omega
        have hm2 : Sam.leastSz g k ≤ m := by omega
        have dl : ((rep k).drop ((rep k).length - m)).length = m := by rw [List.length_drop]; omega
        have ext := (I.cls kn ((rep k).drop ((rep k).length - m))).mpr ⟨List.drop_suffix _ _, by rw [dl]; exact hm2⟩
        have sm4 := sm.trans sm2
        refine ⟨_, rfl, _, rfl, _, rfl, _, rfl, lrs, _, rfl, _, _, rfl, rfl, _, rfl, SX.S (rep k), rfl, lrs, ?_⟩
        rw [cut m hm]
        refine ⟨kp, L, SX.S ((rep k).drop ((rep k).length - m)), rfl, hK4.same sm4, ok.few, (fun q hq => (ok.txt q hq).2), by rw [TL.len_tl, TL.tl_mk, dl]; omega, fun H9 pl Rp s9 npl atp pP eP => ?_⟩
        rw [TL.tl_mk, Sam.plc_ext ext] at eP
        have h29 := s9 _ _ (sm2 _ _ h2)
        refine ⟨_, rfl, _, _, dp_pts atp pP, dp_pts h29 ((h3.same sm2).same s9), dPts_shaped _, dPts_shaped _, ?_⟩
        rw [dPts_eqv, eP, e3, decide_eq_true rfl]
        exact ⟨_, rfl, iteF ⟨_, rfl, sm2.trans s9⟩⟩
      · obtain ⟨y9, rfl, sm2⟩ := hW
        have h22 := sm2 _ _ h2
        have wl : (prefs q'.2.2.2.2).length ≤ 100000 := by
          have := congrArg List.length e3
          rw [List.length_map] at this
          rw [prefs_len, this]
          have := splc_len (w := rep k) (hs := hsOf L) fun y hy => by
            obtain ⟨t, ht, rfl⟩ := List.mem_map.mp hy
            show (TL.tl t.2.2).length ≤ 40
            rw [tlen]
            exact (ok.txt t ht).2
          have e : (hsOf L).length = L.length := List.length_map ..
          rw [e] at this
          omega
        refine ⟨_, rfl, .inl ⟨rfl, _, SqL.of h22⟩, q'.2.2.2.1, _, _, rfl, rfl, h22, szB wl, ?_⟩
        have ql := nwR q' qm
        have apart : ∀ (xs : List V) (b : Addr) (u : HO), b ≠ q'.2.2.2.1 → H2 b = some u → (upd H2 q'.2.2.2.1 (.lst xs)) b = some u := fun xs b u n h => by rw [upd_ne n]; exact h
        have nt : ∀ {b : Addr} {xs : List V}, H2 b = some (.tup xs) → b ≠ q'.2.2.2.1 := fun {b xs} h z => by rw [z, h22] at h; cases h
        refine ⟨_, _, _, _, rfl, same_mut (sm.trans sm2) ql.1, apart _ _ _ ql.2.symm (sm2 _ _ hT), fun q m => ?_, fun j q hj hq => ?_⟩
        · obtain ⟨g1, g2⟩ := hR q m
          have g1 := sm2 _ _ g1
          exact ⟨apart _ _ _ (nt g1) g1, fun x mx => by
            have := sm2 _ _ (g2 x mx)
            exact apart _ _ _ (nt this) this⟩
        · refine apart _ _ _ (fun z => ?_) (sm2 _ _ (hP j q (by omega) hq))
          have a1 : (R.map (·.2.2.2.1))[i]? = some q'.2.2.2.1 := by rw [List.getElem?_map, eR]; rfl
          have a2 : (R.map (·.2.2.2.1))[j]? = some q'.2.2.2.1 := by rw [List.getElem?_map, hq]; exact congrArg some z
          have := (List.getElem?_inj (by rw [List.length_map]; exact iR) ndR).mp (a1.trans a2.symm)
          omega
    · obtain ⟨y6, y7, y8, y9, rfl, sm, hT, hR, hP⟩ := hW
      refine ⟨_, rfl, .inl ⟨rfl, _, SqL.of hT⟩, tl, _, _, rfl, rfl, hT, szB (by rw [Rl]; omega), ?_⟩
      have smZ := same_mut (o := .lst (rrefs R ++ [.int 1])) sm ntl
      generalize upd H' tl (.lst (rrefs R ++ [.int 1])) = HZ at smZ ⊢
      refine ⟨_, rfl, hp, L, g, rep, rfl, hA4.same smZ, ok, F, fun H9 t2 R2 s9 nt2 at2 r2 _ _ z0 z1 _ => ?_⟩
      obtain ⟨eR2, _⟩ := rows R2 (fun n => by rw [z0 n]; rfl) z1
      have d2 := dp_rows (K := K) at2 r2
      rw [eR2] at d2
      refine ⟨_, rfl, _, _, d2, dp_rows ((smZ.trans s9) _ _ atU) (rU.same (smZ.trans s9)), shU, shU, ?_⟩
      rw [evU]
      exact q _
end

end SH
set_option Elab.async false
set_option linter.all false
set_option maxRecDepth 100000
set_option maxHeartbeats 4000000
namespace SH
open PySem PySem.Spec PyProof.Rows L2
theorem law_all {P : Program} {w : World} {K : PySem.W.Frag} {mg : Str → Option Value} {base : Heap} {ea : Ea} {f : Addr} {fd : FuncData} (T : Txt K mg ea) (F : Fun K "law" "law" s_law f fd) : FnOk P w K mg base CX0 8 f fd ["script"] (spLaw K) :=
  have mix := ok__law_mix (P := P) (w := w) (base := base) T
  have text := ok__law_text T mix (ok__law_letter T)
  have ends := ok__law_ends T (ok__law_stands (P := P) (w := w) (base := base) T)
  ok_law T F (ok__law_draws T) (ok__law_house T mix text) (cls2 (ok__law_classes T (ok__law_words T) ends)) (ok_classes T (ok__ends_of_words T)) ends
theorem all_mk {P : Program} {w : World} {K : PySem.W.Frag} {h : Heap} {mg : Str → Option Value} {fa : Addr} (X : K.In h) (G : h.Ns mainGlobals mg) (hfa : mg "law" = some (.ref fa))
    {f_classes f__ends_of_words f__law_draws f__law_mix f__law_letter f__law_text f__law_house f__law_stands f__law_words f__law_ends f__law_classes f_law : Addr}
    {od_classes an_classes od__ends_of_words an__ends_of_words od__law_draws an__law_draws od__law_mix an__law_mix od__law_letter an__law_letter od__law_text an__law_text od__law_house an__law_house od__law_stands an__law_stands od__law_words an__law_words od__law_ends an__law_ends od__law_classes an__law_classes od_law an_law : Option Addr}
    {sl_classes sl__ends_of_words sl__law_draws sl__law_mix sl__law_letter sl__law_text sl__law_house sl__law_stands sl__law_words sl__law_ends sl__law_classes sl_law : Array (Option Value)}
    {oc_classes kV_classes dc_classes pm_classes cd_classes ct_classes oc__ends_of_words kV__ends_of_words dc__ends_of_words pm__ends_of_words cd__ends_of_words ct__ends_of_words oc__law_draws kV__law_draws dc__law_draws pm__law_draws cd__law_draws ct__law_draws oc__law_mix kV__law_mix dc__law_mix pm__law_mix cd__law_mix ct__law_mix oc__law_letter kV__law_letter dc__law_letter pm__law_letter cd__law_letter ct__law_letter oc__law_text kV__law_text dc__law_text pm__law_text cd__law_text ct__law_text oc__law_house kV__law_house dc__law_house pm__law_house cd__law_house ct__law_house oc__law_stands kV__law_stands dc__law_stands pm__law_stands cd__law_stands ct__law_stands oc__law_words kV__law_words dc__law_words pm__law_words cd__law_words ct__law_words oc__law_ends kV__law_ends dc__law_ends pm__law_ends cd__law_ends ct__law_ends oc__law_classes kV__law_classes dc__law_classes pm__law_classes cd__law_classes ct__law_classes oc_law kV_law dc_law pm_law cd_law ct_law : Value}
    (z_abs : PySem.W.nsIn K mainGlobals "abs" = some none)
    (z_bool : PySem.W.nsIn K mainGlobals "bool" = some none)
    (z_int : PySem.W.nsIn K mainGlobals "int" = some none)
    (z_isinstance : PySem.W.nsIn K mainGlobals "isinstance" = some none)
    (z_len : PySem.W.nsIn K mainGlobals "len" = some none)
    (z_list : PySem.W.nsIn K mainGlobals "list" = some none)
    (z_min : PySem.W.nsIn K mainGlobals "min" = some none)
    (z_range : PySem.W.nsIn K mainGlobals "range" = some none)
    (z_sorted : PySem.W.nsIn K mainGlobals "sorted" = some none)
    (z_tuple : PySem.W.nsIn K mainGlobals "tuple" = some none)
    (a_classes : PySem.W.nsIn K mainGlobals "classes" = some (some (.ref f_classes)))
    (l_classes : K.lookup f_classes = some ⟨oc_classes, od_classes, .func (PySem.W.fnOf "classes" "classes" (defArgs s_classes) (defBody s_classes) (defScope s_classes) .none kV_classes dc_classes pm_classes an_classes cd_classes ct_classes), sl_classes⟩)
    (c_classes : PySem.W.codeIn K cd_classes "classes" = true)
    (k_classes : PySem.W.keepIn K (.ref f_classes) = true)
    (a__ends_of_words : PySem.W.nsIn K mainGlobals "_ends_of_words" = some (some (.ref f__ends_of_words)))
    (l__ends_of_words : K.lookup f__ends_of_words = some ⟨oc__ends_of_words, od__ends_of_words, .func (PySem.W.fnOf "_ends_of_words" "_ends_of_words" (defArgs s__ends_of_words) (defBody s__ends_of_words) (defScope s__ends_of_words) .none kV__ends_of_words dc__ends_of_words pm__ends_of_words an__ends_of_words cd__ends_of_words ct__ends_of_words), sl__ends_of_words⟩)
    (c__ends_of_words : PySem.W.codeIn K cd__ends_of_words "_ends_of_words" = true)
    (k__ends_of_words : PySem.W.keepIn K (.ref f__ends_of_words) = true)
    (a__law_draws : PySem.W.nsIn K mainGlobals "_law_draws" = some (some (.ref f__law_draws)))
    (l__law_draws : K.lookup f__law_draws = some ⟨oc__law_draws, od__law_draws, .func (PySem.W.fnOf "_law_draws" "_law_draws" (defArgs s__law_draws) (defBody s__law_draws) (defScope s__law_draws) .none kV__law_draws dc__law_draws pm__law_draws an__law_draws cd__law_draws ct__law_draws), sl__law_draws⟩)
    (c__law_draws : PySem.W.codeIn K cd__law_draws "_law_draws" = true)
    (k__law_draws : PySem.W.keepIn K (.ref f__law_draws) = true)
    (a__law_mix : PySem.W.nsIn K mainGlobals "_law_mix" = some (some (.ref f__law_mix)))
    (l__law_mix : K.lookup f__law_mix = some ⟨oc__law_mix, od__law_mix, .func (PySem.W.fnOf "_law_mix" "_law_mix" (defArgs s__law_mix) (defBody s__law_mix) (defScope s__law_mix) .none kV__law_mix dc__law_mix pm__law_mix an__law_mix cd__law_mix ct__law_mix), sl__law_mix⟩)
    (c__law_mix : PySem.W.codeIn K cd__law_mix "_law_mix" = true)
    (k__law_mix : PySem.W.keepIn K (.ref f__law_mix) = true)
    (a__law_letter : PySem.W.nsIn K mainGlobals "_law_letter" = some (some (.ref f__law_letter)))
    (l__law_letter : K.lookup f__law_letter = some ⟨oc__law_letter, od__law_letter, .func (PySem.W.fnOf "_law_letter" "_law_letter" (defArgs s__law_letter) (defBody s__law_letter) (defScope s__law_letter) .none kV__law_letter dc__law_letter pm__law_letter an__law_letter cd__law_letter ct__law_letter), sl__law_letter⟩)
    (c__law_letter : PySem.W.codeIn K cd__law_letter "_law_letter" = true)
    (k__law_letter : PySem.W.keepIn K (.ref f__law_letter) = true)
    (a__law_text : PySem.W.nsIn K mainGlobals "_law_text" = some (some (.ref f__law_text)))
    (l__law_text : K.lookup f__law_text = some ⟨oc__law_text, od__law_text, .func (PySem.W.fnOf "_law_text" "_law_text" (defArgs s__law_text) (defBody s__law_text) (defScope s__law_text) .none kV__law_text dc__law_text pm__law_text an__law_text cd__law_text ct__law_text), sl__law_text⟩)
    (c__law_text : PySem.W.codeIn K cd__law_text "_law_text" = true)
    (k__law_text : PySem.W.keepIn K (.ref f__law_text) = true)
    (a__law_house : PySem.W.nsIn K mainGlobals "_law_house" = some (some (.ref f__law_house)))
    (l__law_house : K.lookup f__law_house = some ⟨oc__law_house, od__law_house, .func (PySem.W.fnOf "_law_house" "_law_house" (defArgs s__law_house) (defBody s__law_house) (defScope s__law_house) .none kV__law_house dc__law_house pm__law_house an__law_house cd__law_house ct__law_house), sl__law_house⟩)
    (c__law_house : PySem.W.codeIn K cd__law_house "_law_house" = true)
    (k__law_house : PySem.W.keepIn K (.ref f__law_house) = true)
    (a__law_stands : PySem.W.nsIn K mainGlobals "_law_stands" = some (some (.ref f__law_stands)))
    (l__law_stands : K.lookup f__law_stands = some ⟨oc__law_stands, od__law_stands, .func (PySem.W.fnOf "_law_stands" "_law_stands" (defArgs s__law_stands) (defBody s__law_stands) (defScope s__law_stands) .none kV__law_stands dc__law_stands pm__law_stands an__law_stands cd__law_stands ct__law_stands), sl__law_stands⟩)
    (c__law_stands : PySem.W.codeIn K cd__law_stands "_law_stands" = true)
    (k__law_stands : PySem.W.keepIn K (.ref f__law_stands) = true)
    (a__law_words : PySem.W.nsIn K mainGlobals "_law_words" = some (some (.ref f__law_words)))
    (l__law_words : K.lookup f__law_words = some ⟨oc__law_words, od__law_words, .func (PySem.W.fnOf "_law_words" "_law_words" (defArgs s__law_words) (defBody s__law_words) (defScope s__law_words) .none kV__law_words dc__law_words pm__law_words an__law_words cd__law_words ct__law_words), sl__law_words⟩)
    (c__law_words : PySem.W.codeIn K cd__law_words "_law_words" = true)
    (k__law_words : PySem.W.keepIn K (.ref f__law_words) = true)
    (a__law_ends : PySem.W.nsIn K mainGlobals "_law_ends" = some (some (.ref f__law_ends)))
    (l__law_ends : K.lookup f__law_ends = some ⟨oc__law_ends, od__law_ends, .func (PySem.W.fnOf "_law_ends" "_law_ends" (defArgs s__law_ends) (defBody s__law_ends) (defScope s__law_ends) .none kV__law_ends dc__law_ends pm__law_ends an__law_ends cd__law_ends ct__law_ends), sl__law_ends⟩)
    (c__law_ends : PySem.W.codeIn K cd__law_ends "_law_ends" = true)
    (k__law_ends : PySem.W.keepIn K (.ref f__law_ends) = true)
    (a__law_classes : PySem.W.nsIn K mainGlobals "_law_classes" = some (some (.ref f__law_classes)))
    (l__law_classes : K.lookup f__law_classes = some ⟨oc__law_classes, od__law_classes, .func (PySem.W.fnOf "_law_classes" "_law_classes" (defArgs s__law_classes) (defBody s__law_classes) (defScope s__law_classes) .none kV__law_classes dc__law_classes pm__law_classes an__law_classes cd__law_classes ct__law_classes), sl__law_classes⟩)
    (c__law_classes : PySem.W.codeIn K cd__law_classes "_law_classes" = true)
    (k__law_classes : PySem.W.keepIn K (.ref f__law_classes) = true)
    (a_law : PySem.W.nsIn K mainGlobals "law" = some (some (.ref f_law)))
    (l_law : K.lookup f_law = some ⟨oc_law, od_law, .func (PySem.W.fnOf "law" "law" (defArgs s_law) (defBody s_law) (defScope s_law) .none kV_law dc_law pm_law an_law cd_law ct_law), sl_law⟩)
    (c_law : PySem.W.codeIn K cd_law "law" = true)
    (k_law : PySem.W.keepIn K (.ref f_law) = true)
    : ∃ fd : FuncData, (∀ (s : Shared) (v : Value), BindsTo s fd ⟨[v], []⟩ [("script", v)]) ∧ ∀ base : Heap, K.In base → base.Ns mainGlobals mg → FnOk P w K mg base CX0 8 fa fd ["script"] (spLaw K) := by
  have e := hfa.symm.trans (PySem.W.mg_of X G a_law)
  cases e
  have T : Txt K mg ⟨fa⟩ := ⟨PySem.W.mg_none_of X G z_abs, PySem.W.mg_none_of X G z_bool, PySem.W.mg_none_of X G z_int, PySem.W.mg_none_of X G z_isinstance, PySem.W.mg_none_of X G z_len, PySem.W.mg_none_of X G z_list, PySem.W.mg_none_of X G z_min, PySem.W.mg_none_of X G z_range, PySem.W.mg_none_of X G z_sorted, PySem.W.mg_none_of X G z_tuple, ⟨_, _, fun_mk (st := s_classes) l_classes c_classes k_classes, PySem.W.mg_of X G a_classes, (fun_mk (st := s_classes) l_classes c_classes k_classes).binds (ps := ["house"]) fun _ _ _ _ _ _ us hl => match us, hl with | [_], _ => rfl⟩, ⟨_, _, fun_mk (st := s__ends_of_words) l__ends_of_words c__ends_of_words k__ends_of_words, PySem.W.mg_of X G a__ends_of_words, (fun_mk (st := s__ends_of_words) l__ends_of_words c__ends_of_words k__ends_of_words).binds (ps := ["house"]) fun _ _ _ _ _ _ us hl => match us, hl with | [_], _ => rfl⟩, ⟨_, _, fun_mk (st := s__law_draws) l__law_draws c__law_draws k__law_draws, PySem.W.mg_of X G a__law_draws, (fun_mk (st := s__law_draws) l__law_draws c__law_draws k__law_draws).binds (ps := ["script"]) fun _ _ _ _ _ _ us hl => match us, hl with | [_], _ => rfl⟩, ⟨_, _, fun_mk (st := s__law_mix) l__law_mix c__law_mix k__law_mix, PySem.W.mg_of X G a__law_mix, (fun_mk (st := s__law_mix) l__law_mix c__law_mix k__law_mix).binds (ps := ["draws", "k", "many"]) fun _ _ _ _ _ _ us hl => match us, hl with | [_, _, _], _ => rfl⟩, ⟨_, _, fun_mk (st := s__law_letter) l__law_letter c__law_letter k__law_letter, PySem.W.mg_of X G a__law_letter, (fun_mk (st := s__law_letter) l__law_letter c__law_letter k__law_letter).binds (ps := ["cell"]) fun _ _ _ _ _ _ us hl => match us, hl with | [_], _ => rfl⟩, ⟨_, _, fun_mk (st := s__law_text) l__law_text c__law_text k__law_text, PySem.W.mg_of X G a__law_text, (fun_mk (st := s__law_text) l__law_text c__law_text k__law_text).binds (ps := ["draws", "k", "most"]) fun _ _ _ _ _ _ us hl => match us, hl with | [_, _, _], _ => rfl⟩, ⟨_, _, fun_mk (st := s__law_house) l__law_house c__law_house k__law_house, PySem.W.mg_of X G a__law_house, (fun_mk (st := s__law_house) l__law_house c__law_house k__law_house).binds (ps := ["draws", "k", "many", "most"]) fun _ _ _ _ _ _ us hl => match us, hl with | [_, _, _, _], _ => rfl⟩, ⟨_, _, fun_mk (st := s__law_stands) l__law_stands c__law_stands k__law_stands, PySem.W.mg_of X G a__law_stands, (fun_mk (st := s__law_stands) l__law_stands c__law_stands k__law_stands).binds (ps := ["text", "word", "start"]) fun _ _ _ _ _ _ us hl => match us, hl with | [_, _, _], _ => rfl⟩, ⟨_, _, fun_mk (st := s__law_words) l__law_words c__law_words k__law_words, PySem.W.mg_of X G a__law_words, (fun_mk (st := s__law_words) l__law_words c__law_words k__law_words).binds (ps := ["house"]) fun _ _ _ _ _ _ us hl => match us, hl with | [_], _ => rfl⟩, ⟨_, _, fun_mk (st := s__law_ends) l__law_ends c__law_ends k__law_ends, PySem.W.mg_of X G a__law_ends, (fun_mk (st := s__law_ends) l__law_ends c__law_ends k__law_ends).binds (ps := ["house", "word"]) fun _ _ _ _ _ _ us hl => match us, hl with | [_, _], _ => rfl⟩, ⟨_, _, fun_mk (st := s__law_classes) l__law_classes c__law_classes k__law_classes, PySem.W.mg_of X G a__law_classes, (fun_mk (st := s__law_classes) l__law_classes c__law_classes k__law_classes).binds (ps := ["house"]) fun _ _ _ _ _ _ us hl => match us, hl with | [_], _ => rfl⟩, ⟨_, _, fun_mk (st := s_law) l_law c_law k_law, PySem.W.mg_of X G a_law, (fun_mk (st := s_law) l_law c_law k_law).binds (ps := ["script"]) fun _ _ _ _ _ _ us hl => match us, hl with | [_], _ => rfl⟩⟩
  exact ⟨PySem.W.fnOf "law" "law" (defArgs s_law) (defBody s_law) (defScope s_law) .none kV_law dc_law pm_law an_law cd_law ct_law, fun s v => .of_eq rfl, fun base _ _ => law_all T (fun_mk (st := s_law) l_law c_law k_law)⟩
end SH
open PySem PySem.W PyProof.Rows
set_option maxHeartbeats 0 in
theorem PySem.Challenge.cw_suffixhouse_k03_classes_of_stretches_holds : PySem.Challenge.rw_suffixhouse_k03_classes_of_stretches.Holds := by
  w_on; o_law; k_head; (case hw => w_witness2)
  k_fill
  refine L2.walk_of (l := PySem.Challenge.rw_suffixhouse_k03_classes_of_stretches) (n := 63) (k := 8) (x := "script") (CX := fun _ => L2.CX0) (sp := fun w => SH.spLaw _) rfl (by decide) rfl ⟨rfl, by decide, by decide⟩ (fun w h Y => PySem.W.kIn_of Y) ?F (fun _ _ a ns hl _ hS => ⟨a, ns, rfl, hS, hl, fun _ => rfl⟩) (fun _ _ _ _ _ h => h)
  case F =>
    intro w mg fa h KX G hmg
    refine' SH.all_mk KX G hmg ?z_abs ?z_bool ?z_int ?z_isinstance ?z_len ?z_list ?z_min ?z_range ?z_sorted ?z_tuple ?a_classes ?l_classes ?c_classes ?k_classes ?a__ends_of_words ?l__ends_of_words ?c__ends_of_words ?k__ends_of_words ?a__law_draws ?l__law_draws ?c__law_draws ?k__law_draws ?a__law_mix ?l__law_mix ?c__law_mix ?k__law_mix ?a__law_letter ?l__law_letter ?c__law_letter ?k__law_letter ?a__law_text ?l__law_text ?c__law_text ?k__law_text ?a__law_house ?l__law_house ?c__law_house ?k__law_house ?a__law_stands ?l__law_stands ?c__law_stands ?k__law_stands ?a__law_words ?l__law_words ?c__law_words ?k__law_words ?a__law_ends ?l__law_ends ?c__law_ends ?k__law_ends ?a__law_classes ?l__law_classes ?c__law_classes ?k__law_classes ?a_law ?l_law ?c_law ?k_law
    (case z_abs => first | k_is | rfl)
    (case z_bool => first | k_is | rfl)
    (case z_int => first | k_is | rfl)
    (case z_isinstance => first | k_is | rfl)
    (case z_len => first | k_is | rfl)
    (case z_list => first | k_is | rfl)
    (case z_min => first | k_is | rfl)
    (case z_range => first | k_is | rfl)
    (case z_sorted => first | k_is | rfl)
    (case z_tuple => first | k_is | rfl)
    (case a_classes => first | k_is | rfl)
    (case l_classes => first | k_is | rfl)
    (case c_classes => first | k_is | rfl)
    (case k_classes => first | k_is | rfl)
    (case a__ends_of_words => first | k_is | rfl)
    (case l__ends_of_words => first | k_is | rfl)
    (case c__ends_of_words => first | k_is | rfl)
    (case k__ends_of_words => first | k_is | rfl)
    (case a__law_draws => first | k_is | rfl)
    (case l__law_draws => first | k_is | rfl)
    (case c__law_draws => first | k_is | rfl)
    (case k__law_draws => first | k_is | rfl)
    (case a__law_mix => first | k_is | rfl)
    (case l__law_mix => first | k_is | rfl)
    (case c__law_mix => first | k_is | rfl)
    (case k__law_mix => first | k_is | rfl)
    (case a__law_letter => first | k_is | rfl)
    (case l__law_letter => first | k_is | rfl)
    (case c__law_letter => first | k_is | rfl)
    (case k__law_letter => first | k_is | rfl)
    (case a__law_text => first | k_is | rfl)
    (case l__law_text => first | k_is | rfl)
    (case c__law_text => first | k_is | rfl)
    (case k__law_text => first | k_is | rfl)
    (case a__law_house => first | k_is | rfl)
    (case l__law_house => first | k_is | rfl)
    (case c__law_house => first | k_is | rfl)
    (case k__law_house => first | k_is | rfl)
    (case a__law_stands => first | k_is | rfl)
    (case l__law_stands => first | k_is | rfl)
    (case c__law_stands => first | k_is | rfl)
    (case k__law_stands => first | k_is | rfl)
    (case a__law_words => first | k_is | rfl)
    (case l__law_words => first | k_is | rfl)
    (case c__law_words => first | k_is | rfl)
    (case k__law_words => first | k_is | rfl)
    (case a__law_ends => first | k_is | rfl)
    (case l__law_ends => first | k_is | rfl)
    (case c__law_ends => first | k_is | rfl)
    (case k__law_ends => first | k_is | rfl)
    (case a__law_classes => first | k_is | rfl)
    (case l__law_classes => first | k_is | rfl)
    (case c__law_classes => first | k_is | rfl)
    (case k__law_classes => first | k_is | rfl)
    (case a_law => first | k_is | rfl)
    (case l_law => first | k_is | rfl)
    (case c_law => first | k_is | rfl)
    (case k_law => first | k_is | rfl)
