import PyProof.Rows.All
import Wide.All
import OpenK.AllK
import Wide.FinOn
import PyProof.EqAt
import PyProof.EqKinds
import PyProof.TupleCall
import HandS.ForMost
import HandS.Wide
import HandS.Codes
import HandS.TupLe
import HandS.Star
import HandS.StrMore
import HandS.FStr
import HandS.Evl
import HandS.Exc
import HandS.TryMany
import HandS.ExcInit
import HandS.ExcField
import HandS.WideBits
import HandS.WordsExc
import HandS.Walk
import HandS.SortRule
import HandS.IsInst
import PySem.Challenge.RW_suffixhouse_k01_texts_of_houses
set_option Elab.async false
set_option linter.all false
set_option maxRecDepth 100000
set_option maxHeartbeats 4000000
namespace SH
open PySem PySem.Spec PyProof.Rows L2
section
variable {P : Program} {w : World} {K : PySem.W.Frag} {mg : Str → Option Value} {base : Heap}
/-- a def of the top as it stands: its text, its name's value, how it binds -/
structure Dd (K : PySem.W.Frag) (mg : Str → Option Value) (x : Str) (st : Stmt) (ps : List Str) : Prop where
  ex : ∃ (f : Addr) (fd : FuncData), Fun K x x st f fd ∧ mg x = some (.ref f) ∧ Binds K fd ps []
/-- a def that lets nothing out, callable by its name -/
abbrev Cl (P : Program) (w : World) (K : PySem.W.Frag) (mg : Str → Option Value) (base : Heap) (k : Nat) (x : Str) (sp : Sp) : Prop := C8.Cal P w K mg base k x sp []
/-- a def that may raise -/
structure ClX (P : Program) (w : World) (K : PySem.W.Frag) (mg : Str → Option Value) (base : Heap) (k : Nat) (x : Str) (sp : Sp) : Prop where
  ex : ∃ (f : Addr) (fd : FuncData) (ps : List Str), FnOk P w K mg base (L2.CX P w) k f fd ps sp ∧ mg x = some (.ref f) ∧ PySem.W.keepIn K (.ref f) = true ∧ Binds K fd ps []
theorem cl_of {x : Str} {st : Stmt} {ps N : List Str} {k : Nat} {sp : Sp} (D : Dd K mg x st ps) (S : FnScope N ps (defScope st)) (len : ∀ vs H Q E, sp vs H Q E → vs.length = ps.length)
    (hbody : ∀ (f : Addr) (cdv : Value) (A : Around) (outer : List Env) (s : Shared) (H : Hp) (vs : List V) (Q : VK) (E : XK), Room k (A.deeper (envOfC x (defScope st) s.heap.objs.size f cdv)) → sp vs H Q E →
      ∃ t, PSs (cxOf CX0 P w K mg base N x (defScope st) f cdv A outer s H E).nox (defBody st) t ∧ t { nx := fun _ H' => Q .non H', rt := Q } (start N vs) H) : Cl P w K mg base (k + 1) x sp := by
  obtain ⟨f, fd, F, hm, b⟩ := D.ex
  exact ⟨f, fd, ps, [], F.ok S len (fun cdv A outer s H vs Q E hr h => hbody f cdv A outer s H vs Q E hr h), hm, F.kp, b, .nil⟩
theorem clx_of {x : Str} {st : Stmt} {ps N : List Str} {k : Nat} {sp : Sp} (D : Dd K mg x st ps) (S : FnScope N ps (defScope st)) (len : ∀ vs H Q E, sp vs H Q E → vs.length = ps.length)
    (hbody : ∀ (f : Addr) (cdv : Value) (A : Around) (outer : List Env) (s : Shared) (H : Hp) (vs : List V) (Q : VK) (E : XK), Room k (A.deeper (envOfC x (defScope st) s.heap.objs.size f cdv)) → sp vs H Q E →
      ∃ t, PSs (cxOf (L2.CX P w) P w K mg base N x (defScope st) f cdv A outer s H E) (defBody st) t ∧ t { nx := fun _ H' => Q .non H', rt := Q } (start N vs) H) : ClX P w K mg base (k + 1) x sp := by
  obtain ⟨f, fd, F, hm, b⟩ := D.ex
  exact ⟨f, fd, ps, F.okX S len (fun cdv A outer s H vs Q E hr h => hbody f cdv A outer s H vs Q E hr h), hm, F.kp, b⟩
end
section
variable {X : Cx} {k j : Nat} {x : Str} {sp : Sp} {p pos : Pos} {e : Expr} {es : List Expr} {t : TA}
/-- f(e, ..) of a def that may raise, in a try's body or where it passes on -/
theorem pe_cx (c : ClX X.prog X.w X.K X.mg X.base k x sp) {E : L2.St → XK} (hr : Room j X.A) (hk : k ≤ j) (hx : ∀ σ, PassesAt (L2.CX X.prog X.w) X σ (E σ)) (hg : Gl X x) (ha : PA X (e :: es) t)
    (hdb : (x == ("__debug__" : Str)) = false := by decide) (he : starEach (e :: es) X.env = (false, eval e X.env) :: starEach es X.env := by rfl) (hpl : (backTo pos (starEach es X.env)).any (·.1) = false := by rfl) :
    PE X (.Call (.Name x p) (e :: es) [] pos) (tCallS sp E t) := by
  obtain ⟨f, fd, ps, F, hm, kp, b⟩ := c.ex
  exact pe_callS F (hr.mono hk) hg hm kp b hx ha hdb he hpl
end
theorem ixt {X : Cx} {K : PySem.W.Frag} (h : X.K = K := by rfl) : IxR X (rIxT K) := h ▸ ix_tup
theorem ixl {X : Cx} {K : PySem.W.Frag} (h : X.K = K := by rfl) : IxR X (rIxL K) := h ▸ ix_list
/-- a module's number -/
theorem pe_k {X : Cx} {x : Str} {pos : Pos} {v : Int} (h : ∃ t, X.mg x = some (.int v t)) (hg : Gl X x := by rfl) (hdb : (x == ("__debug__" : Str)) = false := by decide) : PE X (.Name x pos) (tC (.int v)) := by
  obtain ⟨t, h⟩ := h
  exact pe_glob hg h ⟨t, rfl⟩ hdb
/-! ### numbers drawn: a list of small numbers -/
def Dr (ns : List Int) : Prop := ns.length ≤ 4000 ∧ ∀ n ∈ ns, 0 ≤ n ∧ n < 65536
/-- r(draws, k, many): a number from 0 below many -/
def spDraw (K : PySem.W.Frag) : Sp := fun vs H Q _ => ∃ (a : Addr) (ns : List Int) (k many : Int), vs = [.ref a, .int k, .int many] ∧ SqL K H a (ns.map V.int) ∧ Dr ns ∧ 0 ≤ k ∧ k < 100000 ∧ 0 < many ∧ ∀ r : Int, 0 ≤ r → r < many → Q (.int r) H
theorem at_ints {ns : List Int} {i : Int} (h0 : 0 ≤ i) (h1 : i < ns.length) : ∃ z, atI (ns.map V.int) i = some (.int z) ∧ z ∈ ns := by
  obtain ⟨j, rfl⟩ : ∃ j : Nat, i = j := ⟨i.toNat, by omega⟩
  have hj : j < ns.length := by omega
  refine ⟨ns[j], ?_, List.getElem_mem hj⟩
  refine atI_nat ?_
  rw [List.getElem?_map, List.getElem?_eq_getElem hj]
  rfl
/-! ### heaps -/
theorem same_new {H : Hp} {p : Addr} {o : HO} (h : H p = none) : Same H (upd H p o) := fun b x e => by
  rw [upd_ne (ne_of_none e h)]
  exact e
theorem same_mut {H H' : Hp} {p : Addr} {o : HO} (e : Same H H') (h : H p = none) : Same H (upd H' p o) := fun b x hb => by
  rw [upd_ne (ne_of_none hb h)]
  exact e b x hb
theorem same_tup {K : PySem.W.Frag} {H H' : Hp} {a : Addr} {xs : List V} (e : Same H H') (h : SqT K H a xs) : SqT K H' a xs := by
  rcases h with (h | ⟨o, h⟩) | h
  · exact .inl (.inl (e _ _ h))
  · exact .inl (.inr ⟨o, e _ _ h⟩)
  · exact .inr h
/-! ### texts of letters -/
def okc (c : Nat) : Bool := decide (32 ≤ c) && (decide (c ≤ 126) && decide (c ≠ 37))
def IsLet (z : Str) : Prop := z.cps.toList.all okc = true
instance (z : Str) : Decidable (IsLet z) := inferInstanceAs (Decidable (_ = true))
theorem str_at {z : Str} {i : Int} (h0 : 0 ≤ i) (h1 : i < (z.cps.toList.length : Int)) : ∃ c, atI z.cps.toList i = some c ∧ c ∈ z.cps.toList := by
  obtain ⟨j, rfl⟩ : ∃ j : Nat, i = j := ⟨i.toNat, by omega⟩
  have hj : j < z.cps.toList.length := by omega
  exact ⟨z.cps.toList[j], atI_nat (List.getElem?_eq_getElem hj), List.getElem_mem hj⟩
theorem let_at {z : Str} {c : Nat} (h : IsLet z) (hc : c ∈ z.cps.toList) : IsLet ⟨#[c]⟩ := by
  have := List.all_eq_true.mp h c hc
  show ([c].all okc) = true
  simp [this]
theorem let_app {a b : Str} (ha : IsLet a) (hb : IsLet b) : IsLet (a ++ b) := by
  have e : (a ++ b).cps.toList = a.cps.toList ++ b.cps.toList := TL.tl_append a b
  show (a ++ b).cps.toList.all okc = true
  rw [e, List.all_append, Bool.and_eq_true]
  exact ⟨ha, hb⟩
theorem len_app (a b : Str) : (a ++ b).length = a.length + b.length := by
  have e : (a ++ b).cps.toList = a.cps.toList ++ b.cps.toList := TL.tl_append a b
  have e2 := congrArg List.length e
  rw [List.length_append] at e2
  simpa [Str.length] using e2
theorem at_map {α : Type} (f : α → V) {xs : List α} {i : Int} (h0 : 0 ≤ i) (h1 : i < xs.length) : ∃ x, atI (xs.map f) i = some (f x) ∧ x ∈ xs := by
  obtain ⟨j, rfl⟩ : ∃ j : Nat, i = j := ⟨i.toNat, by omega⟩
  have hj : j < xs.length := by omega
  refine ⟨xs[j], ?_, List.getElem_mem hj⟩
  refine atI_nat ?_
  rw [List.getElem?_map, List.getElem?_eq_getElem hj]
  rfl
theorem ixs_let {z : Str} {j : Int} {H : Hp} {Q : VK} (hz : IsLet z) (hl : z.length ≤ sizeLine) (h0 : 0 ≤ j) (h1 : j < (z.cps.toList.length : Int)) (h : ∀ c, okc c = true → Q (.str ⟨#[c]⟩) H) : rIxS (.str z) (.int j) H Q := by
  obtain ⟨c, hc, hm⟩ := str_at h0 h1
  exact ⟨z, j, c, rfl, rfl, hl, hc, h c (List.all_eq_true.mp hz c hm)⟩
theorem let_one {c : Nat} (h : okc c = true) : IsLet ⟨#[c]⟩ := by
  show ([c].all okc) = true
  simp [h]
/-! ### houses: pairs of a number and a text, each at its address -/
abbrev PL := List (Addr × Int × Str)
def refs (L : PL) : List V := L.map fun q => V.ref q.1
def PairsAt (K : PySem.W.Frag) (H : Hp) (L : PL) : Prop := ∀ q ∈ L, SqT K H q.1 [.int q.2.1, .str q.2.2]
def HsAt (K : PySem.W.Frag) (H : Hp) (a : Addr) (L : PL) : Prop := SqL K H a (refs L) ∧ PairsAt K H L
theorem PairsAt.same {K : PySem.W.Frag} {H H' : Hp} {L : PL} (e : Same H H') (h : PairsAt K H L) : PairsAt K H' L := fun q hq => same_tup e (h q hq)
theorem HsAt.same {K : PySem.W.Frag} {H H' : Hp} {a : Addr} {L : PL} (e : Same H H') (h : HsAt K H a L) : HsAt K H' a L := ⟨e.seq h.1, h.2.same e⟩
/-- numbers ascending from 0 to 99, texts of at most m letters -/
structure IsHs (m : Nat) (h : List (Int × Str)) : Prop where
  asc : (h.map (·.1)).Pairwise (· < ·)
  num : ∀ q ∈ h, 0 ≤ q.1 ∧ q.1 ≤ 99
  txt : ∀ q ∈ h, IsLet q.2 ∧ q.2.length ≤ m
end SH
set_option Elab.async false
set_option linter.all false
set_option maxRecDepth 100000
set_option maxHeartbeats 4000000
/-! except clauses, any number, with and without a name -/
namespace SH
open PySem PySem.Spec PyProof.Rows L2
abbrev Suite := Addr → Value → Option Addr → TS
/-- behind a suite whose name is forgotten -/
def gone (i : Nat) (D : Ends) : Ends :=
  ⟨fun τ G => D.nx (τ.set i none) G, D.rt, fun τ G => D.bk (τ.set i none) G, fun τ G => D.ct (τ.set i none) G⟩
/-- how a suite is entered: with its name in slot i, or without one -/
def enter (o : Option Nat) (ts : Suite) (a : Addr) (c : Value) (d : Option Addr) (D : Ends) (τ : L2.St) (G : Hp) : Prop :=
  match o with
  | none => ts a c d D τ G
  | some i => ts a c d (gone i D) (τ.set i (some (.ref a))) G
/-- the clauses' wishes: the first that matches -/
def wHds (K : PySem.W.Frag) (Wo : WX) (D : Ends) : List (Value × Option Nat × Suite) → WX
  | [] => Wo
  | q :: r => fun c d τ G => ∃ b, PySem.W.exmOne K c q.1 = some b ∧ (b = true → ∀ a, G a = none → enter q.2.1 q.2.2 a c d D τ G) ∧ (b = false → wHds K Wo D r c d τ G)
/-- a suite's text does what ts says -/
def SuiteOk (X : Cx) (sts : List Stmt) (ts : Suite) : Prop :=
  ∀ (a : Addr) (o : Obj) (c : Value) (d : Option Addr) (l : List (Addr × Obj)), Zc c d o → (∃ f, o.data = .fields f) → PSs (X.suite a ((a, o) :: l)) sts (ts a c d)
inductive HdsN (X : Cx) : List ExceptHandler → List (Value × Option Nat × Suite) → Prop
  | nil : HdsN X [] []
  | cons {x : Str} {c : Value} {ts : Suite} {u : Stmt} {us : List Stmt} {p p' : Pos} {hs : List ExceptHandler} {l : List (Value × Option Nat × Suite)} :
      Names X x c → SuiteOk X (u :: us) ts → HdsN X hs l → HdsN X (.ExceptHandler (some (.Name x p)) none (u :: us) p' :: hs) ((c, none, ts) :: l)
  | named {x n : Str} {i : Nat} {c : Value} {ts : Suite} {u : Stmt} {us : List Stmt} {p p' : Pos} {hs : List ExceptHandler} {l : List (Value × Option Nat × Suite)} :
      Names X x c → X.N.Nodup → X.N[i]? = some n → X.env.kindOf n = some .local → SuiteOk X (u :: us) ts → HdsN X hs l → HdsN X (.ExceptHandler (some (.Name x p)) (some n) (u :: us) p' :: hs) ((c, some i, ts) :: l)
/-- an exception that has come down to this frame: at a, of the class c, with its dict d, over the ground B -/
structure Down (X : Cx) (pins : List (Addr × Obj)) (B : Heap) (a : Addr) (c : Value) (d : Option Addr) (τ : L2.St) (G : Hp) (s : Shared) : Prop where
  st : X.stack = X.env :: X.outer
  fr : X.env.frame = some X.env.locals
  fl : HandSPX.FlyingZ B (X.env :: X.outer) a (Zc c d) s.heap
  on : ∀ h, B.StaysIn h → s.heap.UpToSlots h → Inv X pins τ G { s with heap := h }
  ok : Inv X pins τ G s
  no : G a = none
  out : ∀ (h : Heap) (W : WX), HandSPX.HeldZ B (X.env :: X.outer) a (Zc c d) X.env.locals h → s.heap.UpToSlots h → W c d τ G → XE X W (.ref a) { s with heap := h }
section
variable {X : Cx} {pins : List (Addr × Obj)} {B : Heap} {a : Addr} {c : Value} {d : Option Addr} {τ : L2.St} {G : Hp} {s : Shared}
theorem Down.inner (Y : Down X pins B a c d τ G s) : ∃ o, s.heap.get? a = some o ∧ Zc c d o ∧ (∃ f, o.data = .fields f) ∧ Inv (X.suite a ((a, o) :: (X.pn ++ pins))) [] τ G s := by
  obtain ⟨o, f, ga, za, da⟩ := Y.fl.there
  have away : a ∉ frs (X.env :: X.outer) := by
    intro m
    obtain ⟨-, o', g', nf⟩ := Y.fl.2.2.1.mem m
    cases ga.symm.trans g'
    exact nf _ da
  refine ⟨o, ga, za, ⟨f, da⟩, Y.ok.suite ga da Y.no ?_ ?_⟩
  · intro z
    refine away (List.mem_filterMap.mpr ⟨X.env, List.mem_cons_self, ?_⟩)
    rw [Y.fr, z]
  · intro m
    obtain ⟨e, me, q⟩ := List.mem_filterMap.mp m
    exact away (List.mem_filterMap.mpr ⟨e, List.mem_cons_of_mem _ me, q⟩)
/-- the clause's name is asked, and whether the exception is of it -/
theorem Down.asked (Y : Down X pins B a c d τ G s) {x : Str} {p : Pos} {cl : Value} {b : Bool} (nm : Names X x cl) (hb : PySem.W.exmOne X.K c cl = some b) {Q : Bool → Shared → Prop} {E : Value → Shared → Prop} (q : Q b s) :
    wpAny (model X.prog X.w) (X.A.mark (some (.ref a))) (eval (.Name x p) X.env) (fun u s1 => wpAny (model X.prog X.w) (X.A.mark (some (.ref a))) (excMatches (.ref a) u) Q E s1) E s := by
  obtain ⟨o, ga, za, -, S⟩ := Y.inner
  have ty : PySem.W.Looks (model X.prog X.w) s.heap (typeOf (.ref a)) c := fun _ _ _ _ k z => wpAny_typeOf_ref (k _ _ ga) (by rw [za.1]; exact z)
  have mt := (PySem.W.exm_one (M := model X.prog X.w) Y.ok.kIn ty hb).here (A := X.A.mark (some (.ref a))) (Q := Q) (E := E) q
  obtain ⟨g, nd, hm | ⟨hm, hv, nn⟩⟩ := nm
  · exact ld_glob (X := X.suite a ((a, o) :: (X.pn ++ pins))) S g hm mt nd
  · exact ld_blt (X := X.suite a ((a, o) :: (X.pn ++ pins))) S g hm hv mt nn nd
/-- once more at the suite's beginning -/
theorem Down.again (Y : Down X pins B a c d τ G s) {h : Heap} (f : HandSPX.FlyingZ B (X.env :: X.outer) a (Zc c d) h) (u : s.heap.UpToSlots h) : Down X pins B a c d τ G { s with heap := h } :=
  ⟨Y.st, Y.fr, f, fun g k v => Y.on g k (u.trans v), Y.on h f.1 u, Y.no, fun g W k v w => Y.out g W k (u.trans v) w⟩
theorem Down.handle (Y : Down X pins B a c d τ G s) {D : Ends} {Wo : WX} (tk : Takes X Wo) {hs : List ExceptHandler} {l : List (Value × Option Nat × Suite)} (hk : HdsN X hs l) :
    wHds X.K Wo D l c d τ G → wpAny (model X.prog X.w) X.A (handleBy (.ref a) X.env hs) (SP X pins D) X.xe s := by
  induction hk with
  | nil =>
    intro wish
    refine wpAny_handleBy_nil ?_
    obtain ⟨-, -, -, o, f, T, -, -, go, -, dat, f1, -⟩ := id Y.fl
    unfold PySem.passOn
    refine wpAny_bind (wpAny_field go dat f1 ?_)
    rw [if_neg (by simp : ¬ ((Value.ref T == Value.none) = true))]
    have up : wpAny (model X.prog X.w) X.A (setFlight (.ref a) X.env.frame) (fun _ s4 => wpAny (model X.prog X.w) X.A (throw (.ref a) : Sem Flow) (SP X pins D) X.xe s4) X.xe s := by
      rw [Y.fr]
      exact HandSPX.setFlight_upZ Y.fl fun h held u => wpAny_throw (tk _ _ (Y.out h _ held u wish))
    first
      | exact wpAny_bind (wpAny_pure (wpAny_bind up))
      | exact wpAny_bind up
  | @cons x cl ts u us p p' hs l nm so r ih =>
    rintro ⟨b, hb, yes, no⟩
    refine wpAny_handleBy_cons (codeAny_handlers_test (Y.asked nm hb ?_)) (fun z => nomatch z)
    match b, yes, no with
    | false, _, no => exact ih (no rfl)
    | true, yes, _ =>
      refine codeAny_handlers_suite (HandSPX.lands_againZ Y.fl fun h f v => ?_)
      obtain ⟨o, -, zo, fo, S⟩ := (Y.again f v).inner
      refine wpAny_mono ((so a o c d (X.pn ++ pins) zo fo).run [] _ _ G _ S (yes rfl a Y.no)) ?_ (fun _ _ z => z.elim)
      intro g s6 hsp
      match g, hsp with
      | .next, ⟨τ6, G6, S6, z⟩ => exact ⟨τ6, G6, S6.unsuite Y.ok.ok, z⟩
      | .brk, ⟨τ6, G6, S6, z⟩ => exact ⟨τ6, G6, S6.unsuite Y.ok.ok, z⟩
      | .cont, ⟨τ6, G6, S6, z⟩ => exact ⟨τ6, G6, S6.unsuite Y.ok.ok, z⟩
      | .ret u, ⟨v6, τ6, G6, S6, r6, z⟩ => exact ⟨v6, τ6, G6, S6.unsuite Y.ok.ok, r6, z⟩
  | @named x n i cl ts u us p p' hs l nm hN hi ho so r ih =>
    rintro ⟨b, hb, yes, no⟩
    refine wpAny_handleBy_cons (codeAny_handlers_test (Y.asked nm hb ?_)) (fun z => nomatch z)
    match b, yes, no with
    | false, _, no => exact ih (no rfl)
    | true, yes, _ =>
      refine codeAny_handlers_suite_as (HandSPX.lands_againZ Y.fl fun h f v => ?_)
      obtain ⟨o, -, zo, fo, S⟩ := (Y.again f v).inner
      refine store_ok (X := X.suite a ((a, o) :: (X.pn ++ pins))) (v := .ref a) S hN hi (.inl ho) rfl (fun s5 S5 => ?_) (.inr ho)
      refine wpAny_mono ((so a o c d (X.pn ++ pins) zo fo).run [] s5 _ G _ S5 (yes rfl a Y.no)) ?_ (fun _ _ z => z.elim)
      intro g s6 hsp
      match g, hsp with
      | .next, ⟨τ6, G6, S6, z⟩ => exact gone_ok (S6.unsuite Y.ok.ok) hN hi ho fun s7 J => ⟨τ6.set i none, G6, J, z⟩
      | .brk, ⟨τ6, G6, S6, z⟩ => exact gone_ok (S6.unsuite Y.ok.ok) hN hi ho fun s7 J => ⟨τ6.set i none, G6, J, z⟩
      | .cont, ⟨τ6, G6, S6, z⟩ => exact gone_ok (S6.unsuite Y.ok.ok) hN hi ho fun s7 J => ⟨τ6.set i none, G6, J, z⟩
      | .ret u, ⟨v6, τ6, G6, S6, r6, z⟩ => exact gone_ok (S6.unsuite Y.ok.ok) hN hi ho fun s7 J => ⟨v6, τ6.set i none, G6, J, r6, z⟩
end
/-- try: body, any clauses -/
theorem ps_try_hds {X : Cx} {body : List Stmt} {h₀ : ExceptHandler} {hs : List ExceptHandler} {l : List (Value × Option Nat × Suite)} {pos : Pos} {tb : WX → TS} {Wo : WX}
    (st : X.stack = X.env :: X.outer) (fr : X.env.frame = some X.env.locals) (tk : Takes X Wo)
    (bo : ∀ (W : WX) (pn : List (Addr × Obj)) (xe : Value → Shared → Prop), Takes (X.tr pn xe) W → PassesOwn (model X.prog X.w) X.A X.env xe → PSs (X.tr pn xe) body (tb W))
    (hk : HdsN X (h₀ :: hs) l) : PS X (.Try body (h₀ :: hs) [] [] pos) (fun D τ G => tb (wHds X.K Wo D l) D τ G) := by
  constructor
  intro pins s τ G D I q
  have ok := I.ok
  refine wpAny_Try_except (wpAny_mono ((bo (wHds X.K Wo D l) (X.pn ++ pins) _ ?_ PassesOwn.looking).run [] s τ G D (I.toTry _) q) (fun f s1 r => ?_) (fun e s1 r => r))
  · rintro u s2 ⟨a, B, sI, pins', τ2, G2, c, d, rfl, J', nb, up, sky, na, os, ag, wish⟩
    have J := J'.ofTry ok
    have sky2 : Sky B (X.env :: X.outer) a (Zc c d) X.env.locals s2.heap := st ▸ sky
    refine Sky.land Zc.steady (by rw [ok.frames, st]) fr sky2 (fun h f v => ?_)
    refine Down.handle (B := B) (a := a) (c := c) (d := d) (τ := τ2) (G := G2) (s := { s2 with heap := h }) ⟨st, fr, f, fun g k z => J.landed nb k ((up.trans v).trans z) os ag, J.landed nb f.1 (up.trans v) os ag, na, fun g W k z w => ?_⟩ tk hk wish
    exact ⟨a, B, sI, pins, τ2, G2, c, d, rfl, J, nb, (up.trans v).trans z, .inr (.inr (by rw [st]; exact k)), na, os, ag, w⟩
  · match f, r with
    | .next, ⟨τ2, G2, J, z⟩ => exact wpAny_execs_nil ⟨τ2, G2, J.ofTry ok, z⟩
    | .brk, ⟨τ2, G2, J, z⟩ => exact ⟨τ2, G2, J.ofTry ok, z⟩
    | .cont, ⟨τ2, G2, J, z⟩ => exact ⟨τ2, G2, J.ofTry ok, z⟩
    | .ret u, ⟨v, τ2, G2, J, r2, z⟩ => exact ⟨v, τ2, G2, J.ofTry ok, r2, z⟩
end SH
set_option Elab.async false
set_option linter.all false
set_option maxRecDepth 100000
set_option maxHeartbeats 4000000
/-! errors with a number: made by the base's __init__, raised, caught, asked for their number -/
namespace SH
open PySem PySem.Spec PyProof.Rows L2
/-- numbers that an error is made with here -/
def Small (n : Int) : Prop := n.natAbs < 2 ^ 200
theorem small_bits {n : Int} (h : Small n) : decide ((1000 : Int) < ((Builtin.Int.intBits n : Nat) : Int)) = false := by
  have a := PySem.Flt.log2_lt_of (by decide : 0 < 200) h
  have b : Builtin.Int.intBits n ≤ n.natAbs.log2 + 1 := by
    unfold Builtin.Int.intBits
    split <;> omega
  refine decide_eq_false ?_
  omega
theorem small_of {n : Int} (h0 : -1000000 ≤ n) (h1 : n ≤ 1000000) : Small n := Nat.lt_of_le_of_lt (by omega : n.natAbs ≤ 1000000) (by decide)
/-- __init__(self, at) at a new exception: its dict gets the number -/
def spInitAt (K : PySem.W.Frag) : Sp := fun vs H Q _ => ∃ (a C : Addr) (n : Int), vs = [.ref a, .int n] ∧ OexC K C ∧ PySem.W.findIn K (.ref C) "at" = some none ∧ Small n ∧ H a = some (exo a C none) ∧
  ∀ dx : Addr, H dx = none → dx ≠ a → Q .non (upd (upd H dx (exd dx [(("at" : Str), .int n)])) a (exo a C (some dx)))
/-- what the top says of an error's class -/
structure ErrC (K : PySem.W.Frag) (mg : Str → Option Value) (x : Str) (C fI : Addr) : Prop where
  g : mg x = some (.ref C)
  o : OexC K C
  i : PySem.W.findIn K (.ref C) "__init__" = some (some (.ref fI))
  no : PySem.W.findIn K (.ref C) "at" = some none
  f : XfC K C
/-- .. and of the __init__ -/
structure InitOk (P : Program) (w : World) (K : PySem.W.Frag) (mg : Str → Option Value) (base : Heap) (fI : Addr) : Prop where
  ex : ∃ fd : FuncData, FnOk P w K mg base CX0 1 fI fd ["self", "at"] (spInitAt K) ∧ Binds K fd ["self", "at"] [] ∧ PySem.W.typeIn K (.ref fI) = some (.type "function")
/-- .. as it stands in the text -/
structure DdI (K : PySem.W.Frag) (q : Str) (st : Stmt) (fI : Addr) : Prop where
  ex : ∃ fd : FuncData, Fun K "__init__" q st fI fd ∧ Binds K fd ["self", "at"] [] ∧ PySem.W.typeIn K (.ref fI) = some (.type "function")
section
variable {X : Cx} {k : Nat} {x : Str} {C fI : Addr} {e : Expr} {ta : TA} {p pos : Pos}
/-- x(e): a new error of the class at C -/
theorem pmk_at (T : ErrC X.K X.mg x C fI) (I : InitOk X.prog X.w X.K X.mg X.base fI) (hr : Room k X.A) (hk : 2 ≤ k) (hg : Gl X x) (ha : PA X (e :: []) ta)
    (hd : (x == ("__debug__" : Str)) = false := by decide) (he : starEach (e :: []) X.env = (false, eval e X.env) :: starEach [] X.env := by rfl) (hp : (backTo pos (starEach [] X.env)).any (·.1) = false := by rfl) :
    PMk X (.Call (.Name x p) (e :: []) [] pos) (tMkO C (spInitAt X.K) [] ta) := by
  obtain ⟨fd, F, b, t⟩ := I.ex
  exact pmk_oex T.o T.i t F (hr.mono hk) b .nil pass0 hg T.g ha hd he hp
end
/-- the reading of a made error, behind its argument -/
theorem mk_at {K : PySem.W.Frag} {C : Addr} {H1 : Hp} {n : Int} {Q : XK} (To : OexC K C) (Tn : PySem.W.findIn K (.ref C) "at" = some none) (hs : Small n)
    (go : ∀ (d : Addr) (H2 : Hp), Same H1 H2 → H1 d = none → H2 d = some (.xd [(("at" : Str), .int n)]) → Q (.ref C) (some d) H2) :
    [V.int n].length ≤ 1000 ∧ ∀ a, H1 a = none → spInitAt K (.ref a :: ([V.int n] ++ [])) (upd H1 a (exo a C none))
      (fun v H2 => v = .non ∧ ∃ (d : Addr) (fs : List (Str × V)), H2 a = some (exo a C (some d)) ∧ H2 d = some (exd d fs) ∧ H1 d = none ∧ Q (.ref C) (some d) (upd (del H2 a) d (.xd fs))) (fun _ _ _ => False) := by
  refine ⟨(by show 1 ≤ 1000; decide), fun a na => ⟨a, C, n, rfl, To, Tn, hs, upd_same, fun dx ndx ne => ⟨rfl, dx, [(("at" : Str), V.int n)], upd_same, ?_, ?_, ?_⟩⟩⟩
  · rw [upd_ne ne, upd_same]
  · rw [upd_ne ne] at ndx
    exact ndx
  · rw [upd_ne ne] at ndx
    refine go dx _ (fun b o hb => ?_) ndx upd_same
    have b1 : b ≠ dx := ne_of_none hb ndx
    have b2 : b ≠ a := ne_of_none hb na
    rw [upd_ne b1, del_ne b2, upd_ne b2, upd_ne b1, upd_ne b2]
    exact hb
theorem wHds_skip {K : PySem.W.Frag} {Wo : WX} {D : Ends} {q : Value × Option Nat × Suite} {r : List (Value × Option Nat × Suite)} {c : Value} {d : Option Addr} {τ : L2.St} {G : Hp} (h : PySem.W.exmOne K c q.1 = some false)
    (go : wHds K Wo D r c d τ G) : wHds K Wo D (q :: r) c d τ G := ⟨false, h, (fun z => Bool.noConfusion z), fun _ => go⟩
theorem wHds_take {K : PySem.W.Frag} {Wo : WX} {D : Ends} {q : Value × Option Nat × Suite} {r : List (Value × Option Nat × Suite)} {c : Value} {d : Option Addr} {τ : L2.St} {G : Hp} (h : PySem.W.exmOne K c q.1 = some true)
    (go : ∀ a, G a = none → enter q.2.1 q.2.2 a c d D τ G) : wHds K Wo D (q :: r) c d τ G := ⟨true, h, (fun _ => go), (fun z => Bool.noConfusion z)⟩
theorem exm_of {K : PySem.W.Frag} {C D : Addr} {b : Bool} (h1 : PySem.W.subIn K (.ref D) (.type "BaseException") = some true) (h2 : PySem.W.isClsIn K D = true) (h3 : PySem.W.typeIn K (.ref D) = some (.type "type"))
    (h4 : PySem.W.subIn K (.ref C) (.ref D) = some b) : PySem.W.exmOne K (.ref C) (.ref D) = some b := by
  have c1 : (PySem.W.subIn K (.ref D) (.type "BaseException") == some true) = true := by rw [h1]; rfl
  have c2 : ((PySem.W.clsIn K D).isSome && PySem.W.typeIn K (.ref D) == some (.type "type")) = true := by
    have h2' : (PySem.W.clsIn K D).isSome = true := h2
    rw [h3, h2']; rfl
  unfold PySem.W.exmOne
  rw [if_pos c1]
  show (if ((PySem.W.clsIn K D).isSome && PySem.W.typeIn K (.ref D) == some (.type "type")) = true then PySem.W.subIn K (.ref C) (.ref D) else none) = some b
  rw [if_pos c2]
  exact h4
end SH
set_option Elab.async false
set_option linter.all false
set_option maxRecDepth 100000
set_option maxHeartbeats 4000000
namespace SH
open PySem PySem.Spec PyProof.Rows L2
/-! comprehensions whose steps only add to the heap: RL tells what the list made so far is -/
/-- all but what stands at D is as it was -/
def But (D : Addr) (H H' : Hp) : Prop := ∀ b o, b ≠ D → H b = some o → H' b = some o
theorem but_upd {D : Addr} {H : Hp} {o : HO} : But D H (upd H D o) := fun b x n e => by
  rw [upd_ne n]
  exact e
theorem but_tup {K : PySem.W.Frag} {D t : Addr} {H H' : Hp} {l xs : List V} (hD : H D = some (.lst l)) (e : But D H H') (h : SqT K H t xs) : SqT K H' t xs := by
  rcases h with h | h
  · rcases h with h | h
    · refine Or.inl (Or.inl (e _ _ (fun z => ?_) h))
      rw [z, hD] at h
      cases h
    · obtain ⟨o, h⟩ := h
      refine Or.inl (Or.inr ⟨o, e _ _ (fun z => ?_) h⟩)
      rw [z, hD] at h
      cases h
  · exact Or.inr h
theorem but_pairs {K : PySem.W.Frag} {D : Addr} {H H' : Hp} {l : List V} {L : PL} (hD : H D = some (.lst l)) (e : But D H H') (h : PairsAt K H L) : PairsAt K H' L := fun q hq => but_tup hD e (h q hq)
section
variable {J : It} {n : Nat} {G : Hp → Prop} {Y : Nat → Hp → V → Hp → Prop}
theorem lc_w (w : Walk J n G Y) {g : TG} {tt : TT} {te : TE} {vs : List Nat} {τ : L2.St} {H1 : Hp} {D : Addr} {Qd : Hp → Prop} (hD : H1 D = none) (hn : n ≤ 100000) (hG : ∀ H, Same H1 H → G H)
    (RL : Nat → List V → Hp → Prop) (h0 : ∀ H, Same H1 H → RL 0 [] H) (mono : ∀ i acc H H' l, H D = some (.lst l) → But D H H' → RL i acc H → RL i acc H')
    (hY : ∀ i H x H', Y i H x H' → Same H H')
    (hs : ∀ (i : Nat) (x : V) (acc : List V) (H H' : Hp) (Qn : VK) (Qf : Hp → Prop), i < n → Same H1 H' → Y i H x H' → RL i acc H' → H' D = some (.lst acc) → (∀ y H4, Same H' H4 → RL (i + 1) (acc ++ [y]) H4 → Qn y H4) → (∀ H3, Same H' H3 → RL (i + 1) acc H3 → Qf H3) →
      g x (wipe τ vs) H' fun τ2 H2 => wipe τ2 vs = wipe τ vs ∧ tt τ2 H2 fun b H3 => if b = true then te τ2 H3 Qn else Qf H3)
    (hd : ∀ acc H, Same H1 H → H D = some (.lst acc) → acc.length ≤ n → RL n acc H → Qd H) :
    ∃ W : Nat → Nat → Hp → Prop, (∃ m, W 0 m (upd H1 D (.lst []))) ∧ ∀ i m H, W i m H →
      (J.stop i H ∧ Qd H) ∨ (J.go i H ∧ ∃ Nx : Hp → Prop, (∀ H', Nx H' → ∃ m', m' < m ∧ W (i + 1) m' H') ∧ ∀ x H', J.yld i H x H' → g x (wipe τ vs) H' fun τ2 H2 => wipe τ2 vs = wipe τ vs ∧ tt τ2 H2 fun b H3 =>
        if b = true then te τ2 H3 fun y H4 => ∃ acc, H4 D = some (.lst acc) ∧ acc.length < sizeLine ∧ Nx (upd H4 D (.lst (acc ++ [y]))) else Nx H3) := by
  refine lc_it w (fun i H => ∃ acc, Same H1 H ∧ H D = some (.lst acc) ∧ acc.length ≤ i ∧ RL i acc H) ⟨[], same_new hD, upd_same, Nat.le_refl _, h0 _ (same_new hD)⟩ (fun i H _ p => ?_) (fun i x H H' hi p y => ?_) (fun H p => ?_)
  · obtain ⟨acc, e, _⟩ := p
    exact hG H e
  · obtain ⟨acc, e, at_, hl, r⟩ := p
    have e1 := hY i H x H' y
    have at1 := e1 _ _ at_
    refine hs i x acc H H' _ _ hi (e.trans e1) y (mono i acc H H' acc at_ (fun b o _ h => e1 b o h) r) at1 (fun z H4 e2 r2 => ?_) (fun H3 e2 r2 => ?_)
    · have at2 := e2 _ _ at1
      refine ⟨acc, at2, Nat.lt_of_le_of_lt (Nat.le_trans hl (Nat.le_of_lt (Nat.lt_of_lt_of_le hi hn))) (by decide), acc ++ [z], same_mut ((e.trans e1).trans e2) hD, upd_same, by simp; omega, mono _ _ H4 _ acc at2 but_upd r2⟩
    · exact ⟨acc, (e.trans e1).trans e2, e2 _ _ at1, by omega, r2⟩
  · obtain ⟨acc, e, at_, hl, r⟩ := p
    exact hd acc H e at_ hl r
end
/-! ### numbers and texts -/
theorem lt1 (c d : Nat) : decide (([c] : List Nat) < [d]) = decide (c < d) := by
  by_cases h : c < d
  · rw [decide_eq_true h]
    exact decide_eq_true (List.Lex.rel h)
  · rw [decide_eq_false h]
    refine decide_eq_false fun z => ?_
    cases z with
    | rel q => exact h q
    | cons q => cases q
/-- a text of the document: not too long, of letters -/
def isTxt (z : Str) : Bool := decide (z.length ≤ 40) && z.cps.toList.all okc
/-- a house of the document, behind a number -/
def chk (before : Int) : List (Int × Str) → Bool
  | [] => true
  | q :: r => decide (before < q.1) && decide (q.1 ≤ 99) && isTxt q.2 && chk q.1 r
def isH (h : List (Int × Str)) : Bool := decide (h.length ≤ 8) && chk (-1) h
theorem chk_of {m : Nat} (hm : m ≤ 40) : ∀ (h : List (Int × Str)) (b : Int), (∀ q ∈ h, b < q.1) → IsHs m h → chk b h = true
  | [], _, _, _ => rfl
  | q :: r, b, hb, a => by
    have t := a.txt q (List.mem_cons_self ..)
    have n := a.num q (List.mem_cons_self ..)
    have asc := a.asc
    rw [List.map_cons, List.pairwise_cons] at asc
    have ih := chk_of hm r q.1 (fun x hx => asc.1 x.1 (List.mem_map_of_mem hx)) ⟨asc.2, fun x hx => a.num x (List.mem_cons_of_mem _ hx), fun x hx => a.txt x (List.mem_cons_of_mem _ hx)⟩
    show (decide (b < q.1) && decide (q.1 ≤ 99) && isTxt q.2 && chk q.1 r) = true
    have e1 := hb q (List.mem_cons_self ..)
    have e2 : isTxt q.2 = true := by
      unfold isTxt
      rw [decide_eq_true (Nat.le_trans t.2 hm)]
      exact t.1
    rw [ih, e2, decide_eq_true e1, decide_eq_true n.2]
    rfl
end SH
set_option Elab.async false
set_option linter.all false
set_option maxRecDepth 100000
set_option maxHeartbeats 4000000
/-! sorted(xs), xs a list of pairs of a number and a text; pairs with one number have one text -/
namespace SH
open PySem PySem.Spec PyProof.Rows L2
def NT (h : Heap) (v : Value) (p : Int × Str) : Prop := ∃ (a : Addr) (o : Obj) (t u : Tok) (c : Nat), v = .ref a ∧ h.get? a = some o ∧ o.cls = .type "tuple" ∧ o.data = .seq #[.int p.1 t, .str p.2 u] c
theorem NT.on {h h' : Heap} {v : Value} {p : Int × Str} (x : NT h v p) (k : ∀ b o, h.get? b = some o → o.cls = .type "tuple" → h'.get? b = some o) : NT h' v p := by
  obtain ⟨a, o, t, u, c, rfl, g, q, r⟩ := x
  exact ⟨a, o, t, u, c, rfl, k a o g q, q, r⟩
theorem nt_firsts {h : Heap} {k : Value → Int × Str} : ∀ (vs : List Value), (∀ v ∈ vs, NT h v (k v)) → ∃ fs, PySem.W.KatTups h vs fs ∧ fs.length = vs.length ∧ ∀ f ∈ fs, ∃ n t, f = Value.int n t
  | [], _ => ⟨[], PySem.W.KatTups.nil, rfl, fun _ m => nomatch m⟩
  | v :: r, x => by
    obtain ⟨fs, k1, k2, k3⟩ := nt_firsts r (fun u m => x u (List.mem_cons_of_mem _ m))
    obtain ⟨a, o, t, u, c, rfl, g, q, d⟩ := x v (List.mem_cons_self ..)
    refine ⟨_, PySem.W.KatTups.cons g q d rfl k1, by simp [k2], fun f m => ?_⟩
    rcases List.mem_cons.mp m with e | m
    · exact ⟨_, _, e⟩
    · exact k3 f m
def ltN (k : Value → Int × Str) (v u : Value) : Bool := decide ((k v).1 < (k u).1)
theorem ltN_swo (k : Value → Int × Str) : SrtO.Swo (ltN k) :=
  ⟨fun x y h => decide_eq_false (by have := of_decide_eq_true h; omega), fun x y z h1 h2 => decide_eq_false (by have a := of_decide_eq_false h1; have b := of_decide_eq_false h2; omega)⟩
section
variable {prog : Program} {w : World} {A : Around} {s : Shared}
theorem nt_cmp {vs : List Value} {k : Value → Int × Str} (hp : ∀ v ∈ vs, NT s.heap v (k v)) (one : ∀ v ∈ vs, ∀ u ∈ vs, (k v).1 = (k u).1 → (k v).2 = (k u).2) :
    SrtO.Cmp prog w A s (tuples' true) (fun p => p.1 ∈ vs) (SrtO.lt2 (ltN k)) := by
  rintro ⟨x, kx⟩ ⟨y, ky⟩ mp mq
  have same := one _ mp _ mq
  show wpAny (model prog w) A (keyLt' (tuples' true) x y) (fun r s' => s' = s ∧ r = decide ((k x).1 < (k y).1)) (fun _ _ => False) s
  obtain ⟨a, o, t, u, c, e, g, cl, d⟩ := hp _ mp
  obtain ⟨a', o', t', u', c', e', g', cl', d'⟩ := hp _ mq
  have ex : x = .ref a := e
  have ey : y = .ref a' := e'
  subst ex ey
  refine PySem.W.kat_lt g d g' d' (PySem.W.kat_cons (SeqAt.EqAt.int_int _ t _ t' prog w _ _ (PySem.W.kat_go (fun e1 => ?_) (fun e1 => ?_))))
  · have en : (k (.ref a)).1 = (k (.ref a')).1 := by simpa using e1
    have ez := same en
    refine PySem.W.kat_yes (PySem.W.kat_cons (SeqAt.EqAt.str_str _ u _ u' prog w _ _ (PySem.W.kat_go (fun _ => ?_) (fun e2 => ?_))))
    · refine PySem.W.kat_yes (PySem.W.kat_nil ⟨rfl, ?_⟩)
      rw [en]
      simp
    · rw [ez] at e2
      simp at e2
  · exact PySem.W.kat_no (oneLt_int ⟨rfl, rfl⟩)
theorem nt_sortable {a : Addr} {vs : List Value} {k : Value → Int × Str} (h0 : 0 < vs.length) (hp : ∀ v ∈ vs, NT s.heap v (k v)) (one : ∀ v ∈ vs, ∀ u ∈ vs, (k v).1 = (k u).1 → (k v).2 = (k u).2)
    (ha : ∀ o, s.heap.get? a = some o → o.cls ≠ .type "tuple") : SrtO.SortableO prog w A s a vs (ltN k) := by
  intro h' keep
  have hp' : ∀ v ∈ vs, NT h' v (k v) := fun v m => (hp v m).on fun b o g c => keep b o (fun z => ha o (z ▸ g) c) g
  obtain ⟨fs, f1, f2, f3⟩ := nt_firsts vs hp'
  refine ⟨tuples' true, fun Q E q => PySem.W.kat_kind (T := .type "int") f1 (by omega) (fun f m => ?_) (by rfl) ?_, nt_cmp hp' one⟩
  · obtain ⟨n, t, rfl⟩ := f3 f m
    exact PySem.W.Looks.now
  · have e : (Value.type "int" != Value.type "tuple") = true := by first | decide +kernel | rfl
    rw [e]
    exact q
end
/-- sorted(xs): a new list of the same pairs, by their numbers -/
def rSortNT (K : PySem.W.Frag) : List V → Hp → VK → Prop := fun vs H Q => ∃ (a : Addr) (L : PL), vs = [.ref a] ∧ HsAt K H a L ∧ (∀ q ∈ L, ∀ r ∈ L, q.2.1 = r.2.1 → q.2.2 = r.2.2) ∧
  ∀ (L' : PL) (p : Addr), L'.Perm L → L'.Pairwise (fun q r => q.2.1 ≤ r.2.1) → H p = none → Q (.ref p) (upd H p (.lst (refs L')))
/-- what stands at the address in a list of pairs -/
def atAddr (L : PL) (v : Value) : Int × Str := match v with
  | .ref a => match L.find? (fun q => q.1 == a) with
    | some q => q.2
    | none => (0, "")
  | _ => (0, "")
def addrOf : Value → Addr
  | .ref a => a
  | _ => 0
theorem atAddr_of {L : PL} (un : ∀ q ∈ L, ∀ r ∈ L, q.1 = r.1 → q.2 = r.2) {q : Addr × Int × Str} (hq : q ∈ L) : atAddr L (.ref q.1) = q.2 := by
  show (match L.find? (fun r => r.1 == q.1) with | some r => r.2 | none => (0, "")) = q.2
  cases e : L.find? (fun r => r.1 == q.1) with
  | some r =>
    have h1 := List.mem_of_find?_eq_some e
    have h2 := List.find?_some e
    exact un r h1 q hq (by simpa using h2)
  | none =>
    have := List.find?_eq_none.mp e q hq
    simp at this
section
variable {X : Cx}
theorem cr_sortNT : CallR X (.builtin "sorted") (rSortNT X.K) := by
  intro pins s τ H vs us Q I r h
  obtain ⟨a, L, rfl, hA, one, q⟩ := h
  obtain ⟨its, rv, hl, hz⟩ := I.list hA.1
  obtain ⟨u, rfl, ru⟩ := vals1 r
  obtain rfl : u = Value.ref a := ru
  obtain ⟨e1, e2⟩ := refs_back rv (fun x m => by
    obtain ⟨q, _, e⟩ := List.mem_map.mp m
    exact ⟨q.1, e.symm⟩)
  -- one address, one pair
  have un : ∀ q ∈ L, ∀ r ∈ L, q.1 = r.1 → q.2 = r.2 := fun q hq r hr e => by
    have z := I.tuple_inj (hA.2 q hq) (by rw [e]; exact hA.2 r hr)
    obtain ⟨x, n, t⟩ := q
    obtain ⟨y, m, t'⟩ := r
    simp at z
    show (n, t) = (m, t')
    rw [z.1, z.2]
  have mem : ∀ v ∈ its, ∃ q ∈ L, v = Value.ref q.1 := fun v hv => by
    obtain ⟨t, rfl⟩ := e2 v hv
    have m : V.ref t ∈ refs L := by
      rw [e1]
      exact List.mem_map.mpr ⟨_, hv, rfl⟩
    obtain ⟨q, hq, e⟩ := List.mem_map.mp m
    cases e
    exact ⟨q, hq, rfl⟩
  have nt : ∀ v ∈ its, NT s.heap v (atAddr L v) := fun v hv => by
    obtain ⟨q, hq, rfl⟩ := mem v hv
    rw [atAddr_of un hq]
    obtain ⟨i2, r2, ⟨o, g, c, n, d⟩, _⟩ := I.tuple (hA.2 q hq)
    obtain ⟨u1, u2, rfl, ⟨t1, rfl⟩, ⟨t2, rfl⟩⟩ := vals2 r2
    exact ⟨q.1, o, t1, t2, n, rfl, g, c, d⟩
  have one' : ∀ v ∈ its, ∀ u ∈ its, (atAddr L v).1 = (atAddr L u).1 → (atAddr L v).2 = (atAddr L u).2 := fun v hv u hu => by
    obtain ⟨q, hq, rfl⟩ := mem v hv
    obtain ⟨r, hr, rfl⟩ := mem u hu
    rw [atAddr_of un hq, atAddr_of un hr]
    exact one q hq r hr
  refine SrtO.sorted_ord (ltN_swo (atAddr L)) hl.isList (by rw [← rv.length]; exact hz) (fun h2 h₁ b hb kk => ?_) (fun out hs hb => ?_)
  · refine nt_sortable (s := { s with heap := h₁ }) (by omega) (fun v m => (nt v m).on fun c o g _ => (kk c o g).2) one' (fun o g c => ?_)
    have g' : some o = some (seqObj "list" its.toArray 0) := g.symm.trans hb
    cases g'
    exact absurd (Value.type.inj c) (by decide)
  · have mo : ∀ v ∈ out, ∃ q ∈ L, v = Value.ref q.1 := fun v hv => mem v (hb.perm.mem_iff.mp hv)
    -- the pairs in their new order
    let f : Value → Addr × Int × Str := fun v => (addrOf v, atAddr L v)
    have fq : ∀ q ∈ L, f (.ref q.1) = q := fun q hq => by
      show (q.1, atAddr L (.ref q.1)) = q
      rw [atAddr_of un hq]
    have hL : its.map f = L := by
      have z : (refs L).map (fun v => match v with | .ref t => f (.ref t) | _ => (0, 0, "")) = L := by
        unfold refs
        rw [List.map_map]
        calc L.map _ = L.map id := List.map_congr_left fun q hq => fq q hq
          _ = L := List.map_id L
      rw [e1, List.map_map] at z
      refine Eq.trans (List.map_congr_left fun v hv => ?_) z
      obtain ⟨q, _, rfl⟩ := mem v hv
      rfl
    have hp : (out.map f).Perm L := by
      rw [← hL]
      exact hb.perm.map f
    have hr : refs (out.map f) = out.map backV := by
      unfold refs
      rw [List.map_map]
      refine List.map_congr_left fun v hv => ?_
      obtain ⟨q, _, rfl⟩ := mo v hv
      rfl
    have hsrt : (out.map f).Pairwise (fun q r => q.2.1 ≤ r.2.1) := by
      rw [List.pairwise_map]
      refine List.Pairwise.imp (fun {x y} h => ?_) hs
      have := of_decide_eq_false h
      show (atAddr L x).1 ≤ (atAddr L y).1
      omega
    obtain ⟨n, hn⟩ := sortedAll_at s.heap its out.toArray
    have hd : s.heap.objs.size ≤ s.heap.objs.size + 1 := Nat.le_succ _
    refine ⟨.ref (s.heap.objs.size + 1), upd H (s.heap.objs.size + 1) (.lst (refs (out.map f))), I.laid (t' := s.toks) (fun b o g => sortedAll_old g) hd ⟨?_, out, n, ?_, hn⟩, rfl, q _ _ hp hsrt (I.hok.fresh hd)⟩
    · have e3 : (refs (out.map f)).length = (refs L).length := by
        unfold refs
        rw [List.length_map, List.length_map (as := L), hp.length_eq]
      rw [e3]
      exact hz
    · rw [hr]
      exact vals_back fun v hv => by
        obtain ⟨q, _, rfl⟩ := mo v hv
        exact ⟨q.1, rfl⟩
end
end SH
set_option Elab.async false
set_option linter.all false
set_option maxRecDepth 100000
set_option maxHeartbeats 4000000
/-! houses as data, compared -/
namespace SH
open PySem PySem.Spec PyProof.Rows L2
def dPair (q : Int × Str) : PyData := .tuple [.int q.1, .str q.2]
def dH (h : List (Int × Str)) : PyData := .list (h.map dPair)
theorem dp_refs {K : PySem.W.Frag} {H : Hp} : ∀ (L : PL), PairsAt K H L → DpAll K H (refs L) (L.map fun q => dPair q.2)
  | [], _ => .nil
  | q :: r, h => .cons (.tup (h q (List.mem_cons_self ..)) (.cons (.int _) (.cons (.str _) .nil))) (dp_refs r fun x m => h x (List.mem_cons_of_mem _ m))
theorem dp_house {K : PySem.W.Frag} {H : Hp} {a : Addr} {L : PL} (h : HsAt K H a L) : Dp K H (.ref a) (dH (L.map (·.2))) := by
  refine .lst h.1 ?_
  rw [List.map_map]
  exact dp_refs L h.2
theorem okc_lt {c : Nat} (h : okc c = true) : c < 127 := by
  unfold okc at h
  simp at h
  omega
theorem let_ok {z : Str} (h : IsLet z) : PyData.strOk z = true := by
  unfold PyData.strOk
  rw [← Array.all_toList]
  refine List.all_eq_true.mpr fun c hc => ?_
  have := okc_lt (List.all_eq_true.mp h c hc)
  exact decide_eq_true (by omega)
def LetAll (h : List (Int × Str)) : Prop := ∀ q ∈ h, IsLet q.2
theorem dH_lay : ∀ {h : List (Int × Str)}, LetAll h → PyData.canLayAll0 (h.map dPair) = true
  | [], _ => rfl
  | q :: r, a => by
    rw [List.map_cons, PyData.canLayAll0, dH_lay fun x m => a x (List.mem_cons_of_mem _ m)]
    simp [dPair, PyData.canLay0, PyData.canLayAll0, let_ok (a q (List.mem_cons_self ..))]
theorem dH_deep : ∀ (h : List (Int × Str)), PyData.depthAll (h.map dPair) ≤ 1
  | [] => Nat.zero_le _
  | q :: r => by
    rw [List.map_cons, PyData.depthAll]
    have := dH_deep r
    have e : PyData.depth (dPair q) = 1 := rfl
    rw [e]
    omega
theorem dH_shaped {h : List (Int × Str)} (a : LetAll h) : SeqAt.shaped (dH h) = true := by
  unfold SeqAt.shaped
  have e1 : (dH h).canLay0 = true := dH_lay a
  have e2 : (dH h).depth ≤ 64 := by
    show PyData.depthAll (h.map dPair) + 1 ≤ 64
    have := dH_deep h
    omega
  rw [e1, decide_eq_true e2]
  rfl
theorem dH_refl {h : List (Int × Str)} (a : LetAll h) : PyData.eqv (dH h) (dH h) = true := SeqAt.eqv_refl _ (show (dH h).canLay0 = true from dH_lay a)
/-- what is told or due: a tag and a thing -/
def dT (p : Str × PyData) : PyData := .tuple [.str p.1, p.2]
theorem dT_shaped {p : Str × PyData} (h1 : PyData.strOk p.1 = true) (h2 : p.2.canLay0 = true) (h3 : p.2.depth ≤ 60) : SeqAt.shaped (dT p) = true ∧ PyData.eqv (dT p) (dT p) = true := by
  have e1 : (dT p).canLay0 = true := by
    show (PyData.strOk p.1 && (p.2.canLay0 && true)) = true
    rw [h1, h2]
    rfl
  have e2 : (dT p).depth ≤ 64 := by
    show max 0 (max p.2.depth 0) + 1 ≤ 64
    omega
  refine ⟨?_, SeqAt.eqv_refl _ e1⟩
  unfold SeqAt.shaped
  rw [e1, decide_eq_true e2]
  rfl
theorem dH_depth (h : List (Int × Str)) : (dH h).depth ≤ 60 := by
  show PyData.depthAll (h.map dPair) + 1 ≤ 60
  have := dH_deep h
  omega
theorem isTxt_let {z : Str} (h : isTxt z = true) : IsLet z := by
  unfold isTxt at h
  exact (Bool.and_eq_true_iff.mp h).2
theorem IsHs.letAll {m : Nat} {h : List (Int × Str)} (a : IsHs m h) : LetAll h := fun q hq => (a.txt q hq).1
theorem LetAll.filter {h : List (Int × Str)} (a : LetAll h) (p : Int × Str → Bool) : LetAll (h.filter p) := fun q hq => a q (List.mem_filter.mp hq).1
theorem LetAll.app {h k : List (Int × Str)} (a : LetAll h) (b : LetAll k) : LetAll (h ++ k) := fun q hq => (List.mem_append.mp hq).elim (a q) (b q)
theorem letAll_ins {n : Int} {z : Str} {h : List (Int × Str)} (a : LetAll h) (b : IsLet z) : LetAll (h.filter (fun q => decide (q.1 < n)) ++ [(n, z)] ++ h.filter (fun q => decide (n < q.1))) :=
  ((a.filter _).app fun q hq => by rw [List.mem_singleton.mp hq]; exact b).app (a.filter _)
/-! a house that is none -/
theorem chk_true : ∀ {h : List (Int × Str)} {b : Int}, chk b h = true → (h.map (·.1)).Pairwise (· < ·) ∧ (∀ q ∈ h, b < q.1 ∧ q.1 ≤ 99 ∧ isTxt q.2 = true)
  | [], _, _ => ⟨List.Pairwise.nil, fun q hq => nomatch hq⟩
  | q :: r, b, h => by
    have h' : (decide (b < q.1) && decide (q.1 ≤ 99) && isTxt q.2 && chk q.1 r) = true := h
    simp only [Bool.and_eq_true, decide_eq_true_eq] at h'
    obtain ⟨⟨⟨h1, h2⟩, h3⟩, h4⟩ := h'
    obtain ⟨i1, i2⟩ := chk_true h4
    refine ⟨?_, fun x hx => ?_⟩
    · rw [List.map_cons, List.pairwise_cons]
      refine ⟨fun y hy => ?_, i1⟩
      obtain ⟨z, hz, rfl⟩ := List.mem_map.mp hy
      exact (i2 z hz).1
    · rcases List.mem_cons.mp hx with e | m
      · rw [e]; exact ⟨h1, h2, h3⟩
      · have := i2 x m
        exact ⟨by omega, this.2⟩
theorem isH_false {h : List (Int × Str)} (no : ¬ (h.length ≤ 8 ∧ (h.map (·.1)).Pairwise (· < ·) ∧ ∀ q ∈ h, -1 < q.1 ∧ q.1 ≤ 99 ∧ isTxt q.2 = true)) : isH h = false := by
  cases e : isH h with
  | false => rfl
  | true =>
    unfold isH at e
    obtain ⟨e1, e2⟩ := Bool.and_eq_true_iff.mp e
    exact absurd ⟨of_decide_eq_true e1, chk_true e2⟩ no
/-! ### a house filtered, pair by pair -/
theorem refs_get {L : PL} {i : Nat} {x : V} (h : (refs L)[i]? = some x) : ∃ t, L[i]? = some t ∧ t ∈ L ∧ x = .ref t.1 := by
  unfold refs at h
  rw [List.getElem?_map] at h
  cases e : L[i]? with
  | none => rw [e] at h; cases h
  | some t =>
    rw [e] at h
    cases h
    exact ⟨t, rfl, List.mem_of_getElem? e, rfl⟩
theorem lc_filter {K : PySem.W.Frag} {a : Addr} {L : PL} {g : TG} {tt : TT} {te : TE} {vs : List Nat} {τ : L2.St} {H1 : Hp} {D : Addr} {Qd : Hp → Prop} (hD : H1 D = none) (hA : HsAt K H1 a L) (hl : L.length ≤ 1000) (p : Addr × Int × Str → Bool)
    (hs : ∀ (q : Addr × Int × Str) (H' : Hp) (Qn : VK) (Qf : Hp → Prop), q ∈ L → Same H1 H' → (p q = true → Qn (.ref q.1) H') → (p q = false → Qf H') →
      g (.ref q.1) (wipe τ vs) H' fun τ2 H2 => wipe τ2 vs = wipe τ vs ∧ tt τ2 H2 fun b H3 => if b = true then te τ2 H3 Qn else Qf H3)
    (hd : ∀ H, Same H1 H → H D = some (.lst (refs (L.filter p))) → Qd H) :
    ∃ W : Nat → Nat → Hp → Prop, (∃ m, W 0 m (upd H1 D (.lst []))) ∧ ∀ i m H, W i m H →
      ((Itl K a).stop i H ∧ Qd H) ∨ ((Itl K a).go i H ∧ ∃ Nx : Hp → Prop, (∀ H', Nx H' → ∃ m', m' < m ∧ W (i + 1) m' H') ∧ ∀ x H', (Itl K a).yld i H x H' → g x (wipe τ vs) H' fun τ2 H2 => wipe τ2 vs = wipe τ vs ∧ tt τ2 H2 fun b H3 =>
        if b = true then te τ2 H3 fun y H4 => ∃ acc, H4 D = some (.lst acc) ∧ acc.length < sizeLine ∧ Nx (upd H4 D (.lst (acc ++ [y]))) else Nx H3) := by
  have rl : (refs L).length = L.length := List.length_map ..
  refine lc_w (walk_list (xs := refs L)) hD (by omega) (fun H' e => e.seq hA.1) (fun i acc _ => acc = refs ((L.take i).filter p)) (fun _ _ => rfl) (fun _ _ _ _ _ _ _ r => r) (fun i H x H' y => by rw [y.1]; exact Same.refl _)
    (fun i x acc H2 H3 Qn Qf hi sm y r at_ kn kf => ?_) (fun acc H2 sm at_ _ r => ?_)
  · obtain ⟨rfl, hx⟩ := y
    obtain ⟨t, ht, tm, rfl⟩ := refs_get hx
    refine hs t _ Qn Qf tm sm (fun e => kn _ _ (Same.refl _) ?_) (fun e => kf _ (Same.refl _) ?_)
    · rw [r, List.take_add_one, ht, List.filter_append]
      show _ = refs (_ ++ [t].filter p)
      rw [List.filter_cons_of_pos e]
      unfold refs
      rw [List.map_append]
      rfl
    · rw [r, List.take_add_one, ht, List.filter_append]
      show _ = refs (_ ++ [t].filter p)
      rw [List.filter_cons_of_neg (by rw [e]; decide), List.filter_nil, List.append_nil]
  · refine hd H2 sm ?_
    rw [at_, r, List.take_of_length_le (by omega)]
theorem HsAt.filter {K : PySem.W.Frag} {H : Hp} {L : PL} (h : PairsAt K H L) (p : Addr × Int × Str → Bool) : PairsAt K H (L.filter p) := fun q hq => h q (List.mem_filter.mp hq).1
theorem map_filter (L : PL) (p : Int × Str → Bool) : (L.filter fun q => p q.2).map (·.2) = (L.map (·.2)).filter p := by
  rw [List.filter_map]
  rfl
mutual
theorem dp_same {K : PySem.W.Frag} {H H' : Hp} (e : Same H H') : ∀ {d : PyData} {v : V}, Dp K H v d → Dp K H' v d
  | .none, _, h => by cases h; exact .non
  | .bool _, _, h => by cases h; exact .bl _
  | .int _, _, h => by cases h; exact .int _
  | .str _, _, h => by cases h; exact .str _
  | .list ds, _, h => by
    cases h with
    | lst s a => exact .lst (e.seq s) (dp_all_same e a)
  | .tuple ds, _, h => by
    cases h with
    | tup s a => exact .tup (same_tup e s) (dp_all_same e a)
  | .dict _, _, h => by cases h
theorem dp_all_same {K : PySem.W.Frag} {H H' : Hp} (e : Same H H') : ∀ {ds : List PyData} {vs : List V}, DpAll K H vs ds → DpAll K H' vs ds
  | [], _, h => by cases h; exact .nil
  | d :: ds, _, h => by
    cases h with
    | cons a b => exact .cons (dp_same e a) (dp_all_same e b)
end
/-! ### slices, texts of one letter joined -/
theorem cut_to (xs : List V) (k : Nat) : cutV xs none (some (k : Int)) = xs.take k := by
  unfold cutV
  rw [HT.sIx_none, HT.sIx_nat, List.drop_zero, Nat.sub_zero]
  rcases Nat.le_total k xs.length with h | h
  · rw [Nat.min_eq_left h]
  · rw [Nat.min_eq_right h, List.take_length, List.take_of_length_le h]
theorem joinL_len : ∀ (n c : Nat), (TL.joinL [] (List.replicate n [c])).length = n
  | 0, _ => rfl
  | 1, _ => rfl
  | n + 2, c => by
    show ([c] ++ ([] ++ TL.joinL [] (List.replicate (n + 1) [c]))).length = n + 2
    rw [List.nil_append, List.length_append, joinL_len (n + 1) c]
    show 1 + (n + 1) = n + 2
    omega
theorem join_len {n c : Nat} : (Txt.join "" (List.replicate n (⟨#[c]⟩ : Str))).length = n := by
  have e : (Txt.join "" (List.replicate n (⟨#[c]⟩ : Str))).cps.toList = TL.joinL [] (List.replicate n [c]) := by
    rw [TL.join_eq]
    refine (TL.tl_join "" _).trans ?_
    rw [List.map_replicate]
    rfl
  have e2 := congrArg List.length e
  rw [joinL_len] at e2
  exact e2
theorem joinL_mem {x : Nat} : ∀ (n c : Nat), x ∈ TL.joinL [] (List.replicate n [c]) → x = c
  | 0, _, h => by cases h
  | 1, _, h => by simpa [TL.joinL] using h
  | n + 2, c, h => by
    have h' : x ∈ [c] ++ ([] ++ TL.joinL [] (List.replicate (n + 1) [c])) := h
    rw [List.nil_append] at h'
    rcases List.mem_append.mp h' with m | m
    · exact List.mem_singleton.mp m
    · exact joinL_mem (n + 1) c m
theorem join_mem {n c x : Nat} (h : x ∈ (Txt.join "" (List.replicate n (⟨#[c]⟩ : Str))).cps.toList) : x = c := by
  have e : (Txt.join "" (List.replicate n (⟨#[c]⟩ : Str))).cps.toList = TL.joinL [] (List.replicate n [c]) := by
    rw [TL.join_eq]
    refine (TL.tl_join "" _).trans ?_
    rw [List.map_replicate]
    rfl
  rw [e] at h
  exact joinL_mem n c h
theorem isTxt_long {z : Str} (h : 40 < z.length) : isTxt z = false := by
  unfold isTxt
  rw [decide_eq_false (by omega)]
  rfl
theorem isTxt_line {z : Str} (h : 10 ∈ z.cps.toList) : isTxt z = false := by
  unfold isTxt
  have : z.cps.toList.all okc = false := by
    cases e : z.cps.toList.all okc with
    | false => rfl
    | true => exact absurd (List.all_eq_true.mp e 10 h) (by decide)
  rw [this, Bool.and_false]
end SH
set_option Elab.async false
set_option linter.all false
set_option maxRecDepth 100000
set_option maxHeartbeats 4000000
/-! lines of a house's text -/
namespace SH
open PySem PySem.Spec PyProof.Rows L2 TL
def dg (c : Nat) : Bool := decide (48 ≤ c) && decide (c ≤ 57)
/-- the number that a numeral of one or two signs gives -/
def numIn (a : List Nat) : Option Nat := match a with
  | [c] => if dg c = true then some (c - 48) else none
  | [c, d] => if (dg c && dg d && !(c == 48)) = true then some ((c - 48) * 10 + (d - 48)) else none
  | _ => none
inductive Ft where
  | line | text | order | many
/-- what stands before and behind the first colon -/
def col (z : Str) : Option (Str × Str) := if Txt.find z ":" = -1 then none else some ((Txt.partition z ":").1, (Txt.partition z ":").2.2)
theorem col_cases (z : Str) : (col z = none ∧ Txt.partition z ":" = (z, Str.empty, Str.empty) ∧ Txt.find z ":" = -1) ∨
    ∃ (i : Nat) (a b : Str), col z = some (a, b) ∧ Txt.partition z ":" = (a, (":" : Str), b) ∧ Txt.find z ":" = (i : Int) ∧ tl a = (tl z).take i ∧ tl b = (tl z).drop (i + 1) ∧ i + 1 ≤ z.length := by
  rcases StrLaws.occ_head z ":" 1 (Nat.le_refl 1) with ⟨h0, hn⟩ | ⟨i, r, h0, hi, hn⟩
  · left
    have f : Txt.find z ":" = -1 := by unfold Txt.find; rw [h0]
    refine ⟨by unfold col; rw [if_pos f], ?_, f⟩
    unfold Txt.partition
    rw [h0]
  · right
    have f : Txt.find z ":" = (i : Int) := by unfold Txt.find; rw [h0]
    have p : Txt.partition z ":" = (Builtin.Str.strSub z 0 i, (":" : Str), Builtin.Str.strSub z (i + (":" : Str).length) z.length) := by
      unfold Txt.partition
      rw [h0]
    refine ⟨i, Builtin.Str.strSub z 0 i, Builtin.Str.strSub z (i + 1) z.length, ?_, p, f, ?_, ?_, hi.1⟩
    · unfold col
      rw [if_neg (by rw [f]; omega), p]
      rfl
    · rw [tl_strSub, List.drop_zero, Nat.sub_zero]
    · rw [tl_strSub_end]
/-- a line: its pair, or its first fault -/
def lineR (z : Str) : Sum (Nat × Str) Ft := match col z with
  | none => .inr .line
  | some (a, b) => match numIn (tl a) with
    | none => .inr .line
    | some n => if 40 < b.length then .inr .text else .inl (n, b)
/-- the lines from the k-th on, behind the number b -/
def rdH (rest : Str) : Nat → Int → List Str → Sum (List (Int × Str)) (Ft × Nat)
  | k, _, [] => if rest = "" then .inl [] else .inr (.line, k)
  | k, b, z :: r => match lineR z with
    | .inr t => .inr (t, k)
    | .inl (n, x) => if (n : Int) ≤ b then .inr (.order, k) else if 8 ≤ k then .inr (.many, k) else match rdH rest (k + 1) n r with
      | .inl h => .inl ((n, x) :: h)
      | .inr e => .inr e
/-- with the pairs that have been read -/
def ahead (h : List (Int × Str)) : Sum (List (Int × Str)) (Ft × Nat) → Sum (List (Int × Str)) (Ft × Nat)
  | .inl t => .inl (h ++ t)
  | .inr e => .inr e
theorem rdH_step {rest z x : Str} {k n : Nat} {b : Int} {r : List Str} {h : List (Int × Str)} (hl : lineR z = .inl (n, x)) (h1 : ¬ (n : Int) ≤ b) (h2 : ¬ 8 ≤ k) :
    ahead h (rdH rest k b (z :: r)) = ahead (h ++ [((n : Int), x)]) (rdH rest (k + 1) n r) := by
  rw [rdH, hl]
  show ahead h (if (n : Int) ≤ b then _ else if 8 ≤ k then _ else _) = _
  rw [if_neg h1, if_neg h2]
  cases rdH rest (k + 1) n r with
  | inl t => show Sum.inl (h ++ ((n : Int), x) :: t) = Sum.inl (h ++ [((n : Int), x)] ++ t); rw [List.append_assoc]; rfl
  | inr e => rfl
/-- a text -/
def rdT (z : Str) : Sum (List (Int × Str)) (Ft × Nat) := rdH ((Txt.split z "\n").getLastD "") 0 (-1) (Txt.split z "\n").dropLast
/-! numerals -/
theorem digit_ascii : ∀ c : Nat, c < 128 → Unicode.isDigit c = dg c := by decide +kernel
theorem numIn_one {c n : Nat} : numIn [c] = some n ↔ dg c = true ∧ n = c - 48 := by
  show (if dg c = true then some (c - 48) else none) = some n ↔ _
  by_cases h : dg c = true
  · rw [if_pos h]
    exact ⟨fun e => ⟨h, (Option.some.inj e).symm⟩, fun e => by rw [e.2]⟩
  · rw [if_neg h]
    exact ⟨(fun e => by cases e), (fun e => absurd e.1 h)⟩
theorem numIn_two {c d n : Nat} : numIn [c, d] = some n ↔ dg c = true ∧ dg d = true ∧ c ≠ 48 ∧ n = (c - 48) * 10 + (d - 48) := by
  show (if (dg c && dg d && !(c == 48)) = true then some ((c - 48) * 10 + (d - 48)) else none) = some n ↔ _
  by_cases h : (dg c && dg d && !(c == 48)) = true
  · rw [if_pos h]
    simp at h
    exact ⟨fun e => ⟨h.1.1, h.1.2, h.2, (Option.some.inj e).symm⟩, fun e => by rw [e.2.2.2]⟩
  · rw [if_neg h]
    refine ⟨(fun e => by cases e), (fun e => absurd ?_ h)⟩
    simp [e.1, e.2.1, e.2.2.1]
theorem dg_iff {c : Nat} : dg c = true ↔ 48 ≤ c ∧ c ≤ 57 := by
  unfold dg
  simp
theorem numIn_le {a : List Nat} {n : Nat} (h : numIn a = some n) : n ≤ 99 := by
  match a, h with
  | [c], h =>
    obtain ⟨h1, h2⟩ := numIn_one.mp h
    have := dg_iff.mp h1
    omega
  | [c, d], h =>
    obtain ⟨h1, h2, h3, h4⟩ := numIn_two.mp h
    have := dg_iff.mp h1
    have := dg_iff.mp h2
    omega
  | [], h => cases h
  | _ :: _ :: _ :: _, h => cases h
theorem numIn_len {a : List Nat} {n : Nat} (h : numIn a = some n) : a.length = 1 ∨ a.length = 2 := by
  match a, h with
  | [_], _ => exact .inl rfl
  | [_, _], _ => exact .inr rfl
  | [], h => cases h
  | _ :: _ :: _ :: _, h => cases h
theorem log_small {n : Nat} (h : n ≤ 1000) : ((n : Nat) : Int).natAbs.log2 < 1920 := by
  rw [Int.natAbs_natCast]
  exact Nat.lt_of_le_of_lt (Nat.le_trans (Nat.log2_le_self n) h) (by decide)
/-! texts whose signs are signs -/
def OkS (z : Str) : Prop := ∀ c ∈ tl z, c < 1114112
theorem OkS.ok {z : Str} (h : OkS z) : PyData.strOk z = true := by
  unfold PyData.strOk
  rw [← Array.all_toList]
  exact List.all_eq_true.mpr fun c hc => decide_eq_true (h c hc)
theorem OkS.app {a b : Str} (ha : OkS a) (hb : OkS b) : OkS (a ++ b) := fun c hc => by
  rw [tl_append] at hc
  exact (List.mem_append.mp hc).elim (ha c) (hb c)
theorem OkS.cut {z : Str} (h : OkS z) (lo hi : Option Int) : OkS (cutS z lo hi) := fun c hc => h c (List.mem_of_mem_drop (List.mem_of_mem_take (show c ∈ (z.cps.toList.drop _).take _ from hc)))
theorem ok_let {z : Str} (h : IsLet z) : OkS z := fun c hc => by
  have := okc_lt (List.all_eq_true.mp h c hc)
  omega
theorem ok_part {z x a b : Str} (h : OkS z) {i : Nat} (ha : tl a = (tl z).take i) (hb : tl b = (tl z).drop (i + 1)) : OkS a ∧ OkS b :=
  ⟨fun c hc => h c (List.mem_of_mem_take (by rw [← ha]; exact hc)), fun c hc => h c (List.mem_of_mem_drop (by rw [← hb]; exact hc))⟩
/-- signs and separators of a list of texts -/
def tot (ys : List Str) : Nat := (ys.map (·.length)).sum + ys.length
theorem tot_app (a b : List Str) : tot (a ++ b) = tot a + tot b := by
  unfold tot
  rw [List.map_append, List.sum_append, List.length_append]
  omega
theorem tot_take_drop (a : List Str) (i : Nat) : tot (a.take i) + tot (a.drop i) = tot a := by
  rw [← tot_app, List.take_append_drop]
theorem tot_one (x : Str) : tot [x] = x.length + 1 := by
  unfold tot
  simp
theorem joinL_tot : ∀ l : List (List Nat), (joinL [10] l).length ≤ (l.map List.length).sum + l.length
  | [] => Nat.le_refl _
  | [p] => by simp [joinL]
  | p :: q :: r => by
    have ih := joinL_tot (q :: r)
    show (p ++ ([10] ++ joinL [10] (q :: r))).length ≤ _
    rw [List.length_append, List.length_append, List.map_cons, List.sum_cons, List.length_cons (a := p)]
    simp only [List.length_cons, List.length_nil] at ih ⊢
    omega
theorem join_tot (ys : List Str) : (Txt.join "\n" ys).length ≤ tot ys := by
  have e : tl (Txt.join "\n" ys) = joinL [10] (ys.map tl) := by
    rw [join_eq, tl_join]
    rfl
  have b := joinL_tot (ys.map tl)
  rw [← e, List.map_map, List.length_map] at b
  have c : ((List.length ∘ tl) : Str → Nat) = fun x => x.length := funext fun x => (len_tl x).symm
  rw [c] at b
  rw [len_tl]
  exact b
theorem joinL_mem2 {S : List Nat} {c : Nat} : ∀ {l : List (List Nat)}, c ∈ joinL S l → c ∈ S ∨ ∃ p ∈ l, c ∈ p
  | [], h => by cases h
  | [p], h => .inr ⟨p, List.mem_singleton.mpr rfl, h⟩
  | p :: q :: r, h => by
    have h' : c ∈ p ++ (S ++ joinL S (q :: r)) := h
    rcases List.mem_append.mp h' with m | m
    · exact .inr ⟨p, List.mem_cons_self .., m⟩
    · rcases List.mem_append.mp m with m | m
      · exact .inl m
      · rcases joinL_mem2 m with m | ⟨x, hx, m⟩
        · exact .inl m
        · exact .inr ⟨x, List.mem_cons_of_mem _ hx, m⟩
theorem ok_join {y : Str} (hy : OkS y) {ys : List Str} (h : ∀ x ∈ ys, OkS x) : OkS (Txt.join y ys) := fun c hc => by
  rw [join_eq, tl_join] at hc
  rcases joinL_mem2 hc with m | ⟨p, hp, m⟩
  · exact hy c m
  · obtain ⟨x, hx, rfl⟩ := List.mem_map.mp hp
    exact h x hx c m
theorem split_more (z : Str) : Txt.split z "\n" ≠ [] ∧ tot (Txt.split z "\n") = z.length + 1 ∧ (OkS z → ∀ x ∈ Txt.split z "\n", OkS x) := by
  have key : ∀ (l acc : List Nat), spl [10] 0 acc l ≠ [] ∧ ((spl [10] 0 acc l).map List.length).sum + (spl [10] 0 acc l).length = acc.length + l.length + 1 ∧ ∀ x ∈ spl [10] 0 acc l, ∀ c ∈ x, c ∈ acc ∨ c ∈ l := by
    intro l
    induction l with
    | nil =>
      intro acc
      rw [spl_nil]
      exact ⟨by simp, by simp, fun x hx c hc => by rw [List.mem_singleton.mp hx] at hc; exact .inl hc⟩
    | cons d r ih =>
      intro acc
      by_cases h : pre [10] (d :: r) = true
      · have e : spl [10] 0 acc (d :: r) = acc :: spl [10] 0 [] r := spl_hit h
        obtain ⟨i1, i2, i3⟩ := ih []
        rw [e]
        refine ⟨by simp, ?_, fun x hx c hc => ?_⟩
        · rw [List.map_cons, List.sum_cons, List.length_cons, List.length_cons]
          rw [List.length_nil] at i2
          omega
        · rcases List.mem_cons.mp hx with e1 | m
          · rw [e1] at hc
            exact .inl hc
          · rcases i3 x m c hc with q | q
            · cases q
            · exact .inr (List.mem_cons_of_mem _ q)
      · have e : spl [10] 0 acc (d :: r) = spl [10] 0 (acc ++ [d]) r := by
          show (if pre [10] (d :: r) = true then _ else _) = _
          rw [if_neg h]
        obtain ⟨i1, i2, i3⟩ := ih (acc ++ [d])
        rw [e]
        refine ⟨i1, ?_, fun x hx c hc => ?_⟩
        · have a1 : (acc ++ [d]).length = acc.length + 1 := by simp
          have a2 : (d :: r).length = r.length + 1 := rfl
          omega
        · rcases i3 x hx c hc with q | q
          · rcases List.mem_append.mp q with q | q
            · exact .inl q
            · rw [List.mem_singleton.mp q]; exact .inr (List.mem_cons_self ..)
          · exact .inr (List.mem_cons_of_mem _ q)
  have e : (Txt.split z "\n").map tl = spl [10] 0 [] (tl z) := split_spl z "\n" (by decide) (kind_ok (by decide +kernel))
  obtain ⟨k1, k2, k3⟩ := key (tl z) []
  rw [← e] at k1 k2 k3
  refine ⟨fun h => k1 (by rw [h]; rfl), ?_, fun ok x hx c hc => ?_⟩
  · rw [List.map_map, List.length_map] at k2
    have c : ((List.length ∘ tl) : Str → Nat) = fun x => x.length := funext fun x => (len_tl x).symm
    rw [c] at k2
    unfold tot
    rw [k2, List.length_nil, len_tl z]
    omega
  · rcases k3 (tl x) (List.mem_map_of_mem hx) c hc with q | q
    · cases q
    · exact ok c q
end SH
set_option Elab.async false
set_option linter.all false
set_option maxRecDepth 100000
set_option maxHeartbeats 4000000
namespace SH
open PySem PySem.Spec PyProof.Rows L2
def topS (i : Nat) : Stmt := PySem.Challenge.pw_suffixhouse_k01_texts_of_houses.main.body.getD i (.Pass ⟨0, 0, 0, 0⟩)
abbrev s_write_house : Stmt := topS 9
abbrev s_read_house : Stmt := topS 10
abbrev s__read_line : Stmt := topS 11
abbrev s__number_of : Stmt := topS 12
abbrev s__law_draws : Stmt := topS 14
abbrev s__law_at : Stmt := topS 15
abbrev s__law_mix : Stmt := topS 17
abbrev s__law_letter : Stmt := topS 18
abbrev s__law_text : Stmt := topS 19
abbrev s__law_house : Stmt := topS 20
abbrev s__law_spoilt : Stmt := topS 21
abbrev s__law_number : Stmt := topS 22
abbrev s__law_read : Stmt := topS 23
abbrev s__law_told : Stmt := topS 24
abbrev s_law : Stmt := topS 25
structure Ea where
  fI : Addr
  c_HouseError : Addr
  c_BadLine : Addr
  c_BadText : Addr
  c_WrongOrder : Addr
  c_TooMany : Addr
abbrev s_init : Stmt := inClass (topS 1) 0
structure Txt (K : PySem.W.Frag) (mg : Str → Option Value) (ea : Ea) : Prop where
  b_abs : mg "abs" = none
  b_bool : mg "bool" = none
  b_enumerate : mg "enumerate" = none
  b_int : mg "int" = none
  b_isinstance : mg "isinstance" = none
  b_len : mg "len" = none
  b_list : mg "list" = none
  b_max : mg "max" = none
  b_min : mg "min" = none
  b_range : mg "range" = none
  b_str : mg "str" = none
  b_tuple : mg "tuple" = none
  m__MOST_LETTERS : ∃ t, mg "_MOST_LETTERS" = some (.int 40 t)
  m__MOST_TEXTS : ∃ t, mg "_MOST_TEXTS" = some (.int 8 t)
  d_write_house : Dd K mg "write_house" s_write_house ["house"]
  d_read_house : Dd K mg "read_house" s_read_house ["text"]
  d__read_line : Dd K mg "_read_line" s__read_line ["line", "at"]
  d__number_of : Dd K mg "_number_of" s__number_of ["numeral"]
  d__law_draws : Dd K mg "_law_draws" s__law_draws ["script"]
  d__law_at : Dd K mg "_law_at" s__law_at ["draws", "k", "many"]
  d__law_mix : Dd K mg "_law_mix" s__law_mix ["draws", "k", "many"]
  d__law_letter : Dd K mg "_law_letter" s__law_letter ["cell"]
  d__law_text : Dd K mg "_law_text" s__law_text ["draws", "k", "most"]
  d__law_house : Dd K mg "_law_house" s__law_house ["draws", "k", "many", "most"]
  d__law_spoilt : Dd K mg "_law_spoilt" s__law_spoilt ["draws", "text"]
  d__law_number : Dd K mg "_law_number" s__law_number ["word"]
  d__law_read : Dd K mg "_law_read" s__law_read ["text"]
  d__law_told : Dd K mg "_law_told" s__law_told ["text"]
  d_law : Dd K mg "law" s_law ["script"]
  init : DdI K "HouseError.__init__" s_init ea.fI
  x_HouseError : ErrC K mg "HouseError" ea.c_HouseError ea.fI
  x_BadLine : ErrC K mg "BadLine" ea.c_BadLine ea.fI
  x_BadText : ErrC K mg "BadText" ea.c_BadText ea.fI
  x_WrongOrder : ErrC K mg "WrongOrder" ea.c_WrongOrder ea.fI
  x_TooMany : ErrC K mg "TooMany" ea.c_TooMany ea.fI
  e_BadLine_BadLine : PySem.W.exmOne K (.ref ea.c_BadLine) (.ref ea.c_BadLine) = some true
  e_BadText_BadLine : PySem.W.exmOne K (.ref ea.c_BadText) (.ref ea.c_BadLine) = some false
  e_BadText_BadText : PySem.W.exmOne K (.ref ea.c_BadText) (.ref ea.c_BadText) = some true
  e_WrongOrder_BadLine : PySem.W.exmOne K (.ref ea.c_WrongOrder) (.ref ea.c_BadLine) = some false
  e_WrongOrder_BadText : PySem.W.exmOne K (.ref ea.c_WrongOrder) (.ref ea.c_BadText) = some false
  e_WrongOrder_WrongOrder : PySem.W.exmOne K (.ref ea.c_WrongOrder) (.ref ea.c_WrongOrder) = some true
  e_TooMany_BadLine : PySem.W.exmOne K (.ref ea.c_TooMany) (.ref ea.c_BadLine) = some false
  e_TooMany_BadText : PySem.W.exmOne K (.ref ea.c_TooMany) (.ref ea.c_BadText) = some false
  e_TooMany_WrongOrder : PySem.W.exmOne K (.ref ea.c_TooMany) (.ref ea.c_WrongOrder) = some false
  e_TooMany_TooMany : PySem.W.exmOne K (.ref ea.c_TooMany) (.ref ea.c_TooMany) = some true
section
variable {P : Program} {w : World} {K : PySem.W.Frag} {mg : Str → Option Value} {base : Heap} {ea : Ea}
theorem sc__law_at : FnScope ["draws", "k", "many"] ["draws", "k", "many"] (defScope s__law_at) := ⟨rfl, rfl, rfl, by decide +kernel, rfl, by decide +kernel, by decide +kernel⟩
theorem ok__law_at (T : Txt K mg ea) : Cl P w K mg base 1 "_law_at" (spDraw K) := by
  have nd := sc__law_at.nd
  refine cl_of T.d__law_at sc__law_at (fun vs H Q E h => ?_) (fun f cdv A outer s H vs Q E hr h => ?_)
  · obtain ⟨a, ns, k, many, rfl, _⟩ := h
    rfl
  · obtain ⟨a, ns, k, many, rfl, hS, hD, h0, h1, hm, q⟩ := h
    refine ⟨_, (pss_cons (ps_if (pt_cmpR op_lt (pv 1) (pe_callB call_len_seq (by rfl) T.b_len PySem.boot_len (pa_cons (pv 0) pa_nil)) (nomark _))
        (pss_one (ps_ret (pe_op op_mod (pe_callTy call_int1 (by rfl) T.b_int (by decide +kernel) (pa_cons (pe_ix (ixl (K := K)) (pv 0) (pv 1) (fun _ _ => rfl)) pa_nil)) (pv 2))))
        pss_nil)
      (pss_one (ps_ret pe_int))), ?_⟩
    refine ⟨_, rfl, _, rfl, _, _, rfl, .inl hS, _, _, rfl, rfl, _, rfl, ite2 (fun e => ?_) (fun e => ?_)⟩
    · have e' := of_decide_eq_true e
      rw [List.length_map] at e'
      obtain ⟨z, hz, hm2⟩ := at_ints h0 e'
      refine ⟨_, rfl, _, rfl, _, _, _, _, rfl, rfl, hS, hz, .inl ⟨_, rfl, _, rfl, _, _, rfl, rfl, hm, ?_⟩⟩
      exact q _ (Int.emod_nonneg _ (by omega)) (Int.emod_lt_of_pos _ hm)
    · exact q 0 (by omega) hm
theorem sc__law_mix : FnScope ["draws", "k", "many", "value"] ["draws", "k", "many"] (defScope s__law_mix) := ⟨rfl, rfl, rfl, by decide +kernel, rfl, by decide +kernel, by decide +kernel⟩
theorem ok__law_mix (T : Txt K mg ea) : Cl P w K mg base 1 "_law_mix" (spDraw K) := by
  have nd := sc__law_mix.nd
  refine cl_of T.d__law_mix sc__law_mix (fun vs H Q E h => ?_) (fun f cdv A outer s H vs Q E hr h => ?_)
  · obtain ⟨a, ns, k, many, rfl, _⟩ := h
    rfl
  · obtain ⟨a, ns, k, many, rfl, hS, hD, h0, h1, hm, q⟩ := h
    refine ⟨_, (pss_cons (ps_set (i := 3) nd rfl (.inl rfl) pe_int)
      (C8.pss_cut (ps_if (pt_cmpR op_gt (pe_callB call_len_seq (by rfl) T.b_len PySem.boot_len (pa_cons (pv 0) pa_nil)) pe_int (nomark _))
        (pss_one (ps_set (i := 3) nd rfl (.inl rfl) (pe_ix (ixl (K := K)) (pv 0) (pe_op op_mod (pe_callTy call_int1 (by rfl) T.b_int (by decide +kernel) (pa_cons (pv 1) pa_nil)) (pe_callB call_len_seq (by rfl) T.b_len PySem.boot_len (pa_cons (pv 0) pa_nil))) (fun _ _ => rfl))))
        pss_nil)
      (pss_cons (ps_if (pt_cmpR op_lt (pv 1) (pe_callB call_len_seq (by rfl) T.b_len PySem.boot_len (pa_cons (pv 0) pa_nil)) (nomark _))
        (pss_one (ps_ret (pe_op op_mod (pe_callTy call_int1 (by rfl) T.b_int (by decide +kernel) (pa_cons (pv 3) pa_nil)) (pv 2))))
        pss_nil)
      (pss_one (ps_ret (pe_op op_mod (pe_callTy call_int1 (by rfl) T.b_int (by decide +kernel) (pa_cons (pe_op op_fdiv (pe_callTy call_int1 (by rfl) T.b_int (by decide +kernel) (pa_cons (pe_op op_add (pe_op op_mul (pv 3) pe_int) (pe_op op_mul (pv 1) pe_int)) pa_nil)) pe_int) pa_nil)) (pv 2))))))), ?_⟩
    have hl : (ns.map V.int).length = ns.length := List.length_map ..
    -- the value is a small number behind the if
    refine ⟨fun σ H' => H' = H ∧ ∃ z : Int, 0 ≤ z ∧ z < 65536 ∧ σ = [some (.ref a), some (.int k), some (.int many), some (.int z)], ?_, ?_⟩
    · refine ⟨_, rfl, _, _, rfl, .inl hS, _, _, rfl, rfl, _, rfl, ite2 (fun e => ?_) (fun e => ?_)⟩
      · have e' := of_decide_eq_true e
        rw [hl] at e'
        obtain ⟨z, hz, hm2⟩ := at_ints (ns := ns) (i := k % (ns.length : Int)) (Int.emod_nonneg _ (by omega)) (Int.emod_lt_of_pos _ (by omega))
        refine ⟨_, rfl, _, rfl, .inl ⟨_, rfl, _, rfl, _, _, rfl, .inl hS, _, _, rfl, rfl, (by show (0 : Int) < ((ns.map V.int).length : Int); omega), ?_⟩⟩
        refine ⟨_, _, _, _, rfl, rfl, hS, (by rw [hl]; exact hz), ?_⟩
        exact ⟨rfl, z, (hD.2 z hm2).1, (hD.2 z hm2).2, rfl⟩
      · exact ⟨rfl, 0, by omega, by omega, rfl⟩
    · rintro σ' H' ⟨rfl, z, z0, z1, rfl⟩
      refine ⟨_, rfl, _, rfl, _, _, rfl, .inl hS, _, _, rfl, rfl, _, rfl, ite2 (fun e => ?_) (fun e => ?_)⟩
      · refine ⟨_, rfl, .inl ⟨_, rfl, _, rfl, _, _, rfl, rfl, hm, ?_⟩⟩
        exact q _ (Int.emod_nonneg _ (by omega)) (Int.emod_lt_of_pos _ hm)
      · refine ⟨_, rfl, _, _, rfl, rfl, .inr (by decide), _, rfl, _, _, rfl, rfl, .inr (by decide), _, _, rfl, rfl, .inl ⟨_, rfl, _, _, rfl, rfl, (by constructor <;> decide), .inl ⟨_, rfl, _, rfl, _, _, rfl, rfl, hm, ?_⟩⟩⟩
        exact q _ (Int.emod_nonneg _ (by omega)) (Int.emod_lt_of_pos _ hm)
/-- a letter -/
def spLetter : Sp := fun vs H Q _ => ∃ i : Int, vs = [.int i] ∧ ∀ c : Nat, okc c = true → Q (.str ⟨#[c]⟩) H
theorem sc__law_letter : FnScope ["cell", "table"] ["cell"] (defScope s__law_letter) := ⟨rfl, rfl, rfl, by decide +kernel, rfl, by decide +kernel, by decide +kernel⟩
theorem ok__law_letter (T : Txt K mg ea) : Cl P w K mg base 1 "_law_letter" spLetter := by
  have nd := sc__law_letter.nd
  refine cl_of T.d__law_letter sc__law_letter (fun vs H Q E h => ?_) (fun f cdv A outer s H vs Q E hr h => ?_)
  · obtain ⟨i, rfl, _⟩ := h
    rfl
  · obtain ⟨i, rfl, q⟩ := h
    refine ⟨_, (pss_cons (ps_set (i := 1) nd rfl (.inl rfl) pe_str)
      (pss_one (ps_ret (pe_ix ix_str (pv 1) (pe_op op_mod (pe_callTy call_int1 (by rfl) T.b_int (by decide +kernel) (pa_cons (pv 0) pa_nil)) pe_int) (fun _ _ => rfl))))), ?_⟩
    refine ⟨_, rfl, _, rfl, .inl ⟨_, rfl, _, _, rfl, rfl, (by show (0 : Int) < 94; decide), ?_⟩⟩
    refine (?_ : ∀ z : Str, z.cps.toList.length = 94 → IsLet z → ∃ (z' : Str) (j : Int) (c : Nat), V.str z = .str z' ∧ V.int (i % 94) = .int j ∧ z'.length ≤ sizeLine ∧ atI z'.cps.toList j = some c ∧ Q (.str ⟨#[c]⟩) H) _ (by decide +kernel) (by decide +kernel)
    intro z hl hz
    obtain ⟨c, hc, hm⟩ := str_at (z := z) (i := i % 94) (Int.emod_nonneg _ (by decide)) (by rw [hl]; exact Int.emod_lt_of_pos _ (by decide))
    refine ⟨z, _, c, rfl, rfl, ?_, hc, q c (List.all_eq_true.mp hz c hm)⟩
    have : z.length = 94 := by simpa [Str.length] using hl
    rw [this]
    decide
/-- a text of at most so many letters -/
def spText (K : PySem.W.Frag) : Sp := fun vs H Q _ => ∃ (a : Addr) (ns : List Int) (k : Int) (most : Nat), vs = [.ref a, .int k, .int most] ∧ SqL K H a (ns.map V.int) ∧ Dr ns ∧ 0 ≤ k ∧ k < 50000 ∧ most ≤ 100 ∧
  ∀ (z : Str) (H' : Hp), Same H H' → IsLet z → z.length ≤ most → Q (.str z) H'
theorem sc__law_text : FnScope ["draws", "k", "most", "word", "text", "n", "cell", "letters"] ["draws", "k", "most"] (defScope s__law_text) := ⟨rfl, rfl, rfl, by decide +kernel, rfl, by decide +kernel, by decide +kernel⟩
theorem ok__law_text (T : Txt K mg ea) (c__law_mix : Cl P w K mg base 1 "_law_mix" (spDraw K)) (c__law_letter : Cl P w K mg base 1 "_law_letter" spLetter) : Cl P w K mg base 2 "_law_text" (spText K) := by
  have nd := sc__law_text.nd
  refine cl_of T.d__law_text sc__law_text (fun vs H Q E h => ?_) (fun f cdv A outer s H vs Q E hr h => ?_)
  · obtain ⟨a, ns, k, most, rfl, _⟩ := h
    rfl
  · obtain ⟨a, ns, k, most, rfl, hS, hD, h0, h1, hm, q⟩ := h
    refine ⟨_, (pss_cons (ps_set (i := 3) nd rfl (.inl rfl) (C8.pe_c c__law_mix hr (by decide) (by rfl) (pa_cons (pv 0) (pa_cons (pe_op op_add (pv 1) pe_int) (pa_cons pe_int pa_nil)))))
      (pss_cons (ps_set (i := 4) nd rfl (.inl rfl) pe_str)
      (pss_cons (ps_for PassesOwn.never rfl (pi_range1 rfl T.b_range (pa_cons (C8.pe_c c__law_mix hr (by decide) (by rfl) (pa_cons (pv 0) (pa_cons (pv 1) (pa_cons (pe_op op_add (pv 2) pe_int) pa_nil)))) pa_nil)) (pg_name (i := 5) nd rfl (.inl rfl))
        (pss_cons (ps_set (i := 6) nd rfl (.inl rfl) (C8.pe_c c__law_mix hr (by decide) (by rfl) (pa_cons (pv 0) (pa_cons (pe_op op_add (pe_op op_add (pv 1) pe_int) (pv 5)) (pa_cons pe_int pa_nil)))))
          (pss_cons (ps_set (i := 7) nd rfl (.inl rfl) (pe_lst (pa_cons (pe_ix ix_str pe_str (pe_op op_mod (pe_callTy call_int1 (by rfl) T.b_int (by decide +kernel) (pa_cons (pe_op op_fdiv (pv 6) pe_int) pa_nil)) pe_int) (fun _ _ => rfl)) (pa_cons (pe_ix ix_str pe_str (pe_op op_mod (pe_callTy call_int1 (by rfl) T.b_int (by decide +kernel) (pa_cons (pe_op op_fdiv (pv 6) pe_int) pa_nil)) pe_int) (fun _ _ => rfl)) (pa_cons (pe_ix ix_str pe_str (pe_op op_andM (pe_callTy call_int1 (by rfl) T.b_int (by decide +kernel) (pa_cons (pv 6) pa_nil)) pe_int) (fun _ _ => rfl)) (pa_cons (C8.pe_c c__law_letter hr (by decide) (by rfl) (pa_cons (pv 6) pa_nil)) (pa_cons pe_str pa_nil)))))))
          (pss_one (ps_set (i := 4) nd rfl (.inl rfl) (pe_op op_add_str (pv 4) (pe_ix (ixl (K := K)) (pv 7) (pv 3) (fun _ _ => rfl))))))))
      (pss_one (ps_ret (pv 4)))))), ?_⟩
    refine ⟨_, rfl, _, rfl, _, _, rfl, rfl, a, ns, k + 1, 5, rfl, hS, hD, by omega, by omega, by omega, fun word w0 w1 => ?_⟩
    refine ⟨_, rfl, _, rfl, _, rfl, _, _, rfl, rfl, a, ns, k, (most : Int) + 1, rfl, hS, hD, by omega, by omega, by omega, fun r r0 r1 => ?_⟩
    refine ⟨r, rfl, by omega, by omega, ?_⟩
    refine for_range (lo := 0) (n := r.toNat) (fun i σ H' => ∃ (z : Str) (y5 y6 y7 : Option V), σ = [some (.ref a), some (.int k), some (.int most), some (.int word), some (.str z), y5, y6, y7] ∧ Same H H' ∧ IsLet z ∧ z.length ≤ i)
      ⟨_, none, none, none, rfl, Same.refl H, (by decide), (by decide)⟩ (fun i σ H' hi hW => ?_) (fun σ H' hW => ?_)
    · obtain ⟨z, y5, y6, y7, rfl, sm, hz, hl⟩ := hW
      have hS1 := sm.seq hS
      refine ⟨_, rfl, _, rfl, _, _, rfl, rfl, _, rfl, _, _, rfl, rfl, a, ns, k + 2 + (0 + (i : Int)), 9000, rfl, hS1, hD, by omega, by omega, by omega, fun cell c0 c1 => ?_⟩
      refine ⟨_, rfl, _, _, rfl, rfl, (by constructor <;> decide), .inl ⟨_, rfl, _, _, rfl, rfl, (by show (0 : Int) < 2; decide), ?_⟩⟩
      refine ixs_let (by decide) (by decide) (Int.emod_nonneg _ (by decide)) (Int.emod_lt_of_pos _ (by decide)) fun u1 v1 => ?_
      refine ⟨_, rfl, _, _, rfl, rfl, (by constructor <;> decide), .inl ⟨_, rfl, _, _, rfl, rfl, (by show (0 : Int) < 3; decide), ?_⟩⟩
      refine ixs_let (by decide) (by decide) (Int.emod_nonneg _ (by decide)) (Int.emod_lt_of_pos _ (by decide)) fun u2 v2 => ?_
      refine ⟨_, rfl, .inl ⟨_, rfl, cell, 2, rfl, rfl, ?_⟩⟩
      refine ixs_let (by decide) (by decide) (Int.emod_nonneg _ (by decide)) (Int.emod_lt_of_pos _ (by decide)) fun u3 v3 => ?_
      refine ⟨_, rfl, cell, rfl, fun u4 v4 => ?_⟩
      refine ⟨(by show 5 ≤ sizeLine; decide), fun l hl2 => ?_⟩
      have sm2 : Same H (upd H' l (.lst ([(⟨#[u1]⟩ : Str), ⟨#[u2]⟩, ⟨#[u3]⟩, ⟨#[u4]⟩, "a"].map V.str))) := sm.trans (same_new hl2)
      obtain ⟨x, hx, hxm⟩ := at_map V.str (xs := [(⟨#[u1]⟩ : Str), ⟨#[u2]⟩, ⟨#[u3]⟩, ⟨#[u4]⟩, "a"]) (i := word) w0 w1
      have hx1 : IsLet x ∧ x.length = 1 := by
        simp only [List.mem_cons, List.not_mem_nil, or_false] at hxm
        rcases hxm with e | e | e | e | e <;> subst e
        · exact ⟨let_one v1, rfl⟩
        · exact ⟨let_one v2, rfl⟩
        · exact ⟨let_one v3, rfl⟩
        · exact ⟨let_one v4, rfl⟩
        · exact ⟨by decide, by decide⟩
      refine ⟨_, rfl, _, rfl, _, rfl, l, _, word, .str x, rfl, rfl, .inl (.inl upd_same), hx, z, x, rfl, rfl, ?_, ?_⟩
      · exact Nat.le_trans (by omega : z.length + x.length ≤ 1000) (by decide)
      · exact ⟨_, _, _, _, rfl, sm2, let_app hz hx1.1, by rw [len_app]; omega⟩
    · obtain ⟨z, y5, y6, y7, rfl, sm, hz, hl⟩ := hW
      exact ⟨_, rfl, q z H' sm hz (by omega)⟩
/-- the numbers drawn from the script: a new list of small numbers -/
def spDraws (K : PySem.W.Frag) : Sp := fun vs H Q _ => ∃ (a : Addr) (ns : List Int), vs = [.ref a] ∧ SqL K H a (ns.map V.int) ∧ ns.length ≤ 63 ∧
  ∀ (p : Addr) (ds : List Int) (H' : Hp), Same H H' → H p = none → H' p = some (.lst (ds.map V.int)) → Dr ds → Q (.ref p) H'
/-- the list at p so far -/
structure DrAt (H H' : Hp) (p : Addr) (n : Nat) (ds : List Int) : Prop where
  sm : Same H H'
  at_ : H' p = some (.lst (ds.map V.int))
  len : ds.length ≤ n
  all : ∀ z ∈ ds, 0 ≤ z ∧ z < 65536
theorem DrAt.more {H H' : Hp} {p : Addr} {n : Nat} {ds : List Int} (h : DrAt H H' p n ds) (hp : H p = none) {z : Int} (z0 : 0 ≤ z) (z1 : z < 65536) : DrAt H (upd H' p (.lst (ds.map V.int ++ [.int z]))) p (n + 1) (ds ++ [z]) :=
  ⟨same_mut h.sm hp, by rw [upd_same, List.map_append]; rfl, by rw [List.length_append]; have := h.len; simp; omega, fun y hy => by
    rcases List.mem_append.mp hy with m | m
    · exact h.all y m
    · rw [List.mem_singleton.mp m]; exact ⟨z0, z1⟩⟩
theorem DrAt.mono {H H' : Hp} {p : Addr} {n m : Nat} {ds : List Int} (h : DrAt H H' p n ds) (l : n ≤ m) : DrAt H H' p m ds := ⟨h.sm, h.at_, Nat.le_trans h.len l, h.all⟩
theorem sc__law_draws : FnScope ["script", "draws", "k", "rest", "turn", "mixed"] ["script"] (defScope s__law_draws) := ⟨rfl, rfl, rfl, by decide +kernel, rfl, by decide +kernel, by decide +kernel⟩
theorem ok__law_draws (T : Txt K mg ea) : Cl P w K mg base 1 "_law_draws" (spDraws K) := by
  have nd := sc__law_draws.nd
  refine cl_of T.d__law_draws sc__law_draws (fun vs H Q E h => ?_) (fun f cdv A outer s H vs Q E hr h => ?_)
  · obtain ⟨a, ns, rfl, _⟩ := h
    rfl
  · obtain ⟨a, ns, rfl, hS, hl, q⟩ := h
    refine ⟨_, (pss_cons (ps_set (i := 1) nd rfl (.inl rfl) (pe_lst pa_nil))
      (pss_cons (ps_for PassesOwn.never rfl (pi_range1 rfl T.b_range (pa_cons (pe_callB (call_min2 rfl) (by rfl) T.b_min (by decide +kernel) (pa_cons pe_int (pa_cons (pe_callB call_len_seq (by rfl) T.b_len PySem.boot_len (pa_cons (pv 0) pa_nil)) pa_nil))) pa_nil)) (pg_name (i := 2) nd rfl (.inl rfl))
        (pss_cons (ps_set (i := 3) nd rfl (.inl rfl) (pe_callB call_abs (by rfl) T.b_abs (by decide +kernel) (pa_cons (pe_ix (ixl (K := K)) (pv 0) (pv 2) (fun _ _ => rfl)) pa_nil)))
          (pss_one (ps_if (pt_cmpR op_ge (pv 3) (pe_op op_pow pe_int pe_int) (nomark _))
            (pss_one (ps_for PassesOwn.never rfl (pi_range1 rfl T.b_range (pa_cons pe_int pa_nil)) (pg_name (i := 4) nd rfl (.inl rfl))
                (pss_one (ps_if (pt_cmpR op_gt (pv 3) pe_int (nomark _))
                    (pss_cons (ps_expr (pe_bm PySem.F.plainAttrs_list PySem.F.slot_list_append PySem.F.type_list_append mt_append (pv 1) (pa_cons (pe_op op_mod (pe_callTy call_int1 (by rfl) T.b_int (by decide +kernel) (pa_cons (pv 3) pa_nil)) pe_int) pa_nil)))
                      (pss_one (ps_set (i := 3) nd rfl (.inl rfl) (pe_op op_fdiv (pv 3) pe_int))))
                    pss_nil))))
            (pss_cons (ps_set (i := 5) nd rfl (.inl rfl) (pe_op op_mod (pe_callTy call_int1 (by rfl) T.b_int (by decide +kernel) (pa_cons (pe_op op_add (pe_op op_mul (pv 3) pe_int) (pe_op op_mul (pe_op op_add (pv 2) pe_int) pe_int)) pa_nil)) pe_int))
              (pss_cons (ps_set (i := 5) nd rfl (.inl rfl) (pe_op op_mod (pe_callTy call_int1 (by rfl) T.b_int (by decide +kernel) (pa_cons (pe_op op_add (pe_op op_add (pe_op op_mul (pv 5) pe_int) (pe_op op_mul pe_int (pv 2))) pe_int) pa_nil)) pe_int))
              (pss_cons (ps_expr (pe_bm PySem.F.plainAttrs_list PySem.F.slot_list_append PySem.F.type_list_append mt_append (pv 1) (pa_cons (pe_op op_mod (pe_callTy call_int1 (by rfl) T.b_int (by decide +kernel) (pa_cons (pv 5) pa_nil)) pe_int) pa_nil)))
              (pss_one (ps_expr (pe_bm PySem.F.plainAttrs_list PySem.F.slot_list_append PySem.F.type_list_append mt_append (pv 1) (pa_cons (pe_op op_mod (pe_callTy call_int1 (by rfl) T.b_int (by decide +kernel) (pa_cons (pe_op op_fdiv (pv 5) pe_int) pa_nil)) pe_int) pa_nil)))))))))))
      (pss_one (ps_ret (pv 1))))), ?_⟩
    refine ⟨Nat.zero_le _, fun p hp => ?_⟩
    have sm0 : Same H (upd H p (.lst [])) := same_new hp
    have hlen : (ns.map V.int).length = ns.length := List.length_map ..
    refine ⟨_, rfl, _, _, rfl, .inl (sm0.seq hS), _, _, rfl, ?_⟩
    have hm : (if ((ns.map V.int).length : Int) < 63 then ((ns.map V.int).length : Int) else 63) ≤ ns.length ∧ 0 ≤ (if ((ns.map V.int).length : Int) < 63 then ((ns.map V.int).length : Int) else 63) ∧ (if ((ns.map V.int).length : Int) < 63 then ((ns.map V.int).length : Int) else 63) ≤ 63 := by
      rw [hlen]; split <;> omega
    refine ⟨_, rfl, by omega, by omega, ?_⟩
    generalize (if ((ns.map V.int).length : Int) < 63 then ((ns.map V.int).length : Int) else 63) = m at hm ⊢
    obtain ⟨m1, m0, m2⟩ := hm
    refine for_range (lo := 0) (n := m.toNat) (fun i σ H' => ∃ (ds : List Int) (y2 y3 y4 y5 : Option V), σ = [some (.ref a), some (.ref p), y2, y3, y4, y5] ∧ DrAt H H' p (60 * i) ds)
      ⟨[], none, none, none, none, rfl, sm0, upd_same, Nat.zero_le _, fun z hz => by cases hz⟩ (fun i σ H' hi hW => ?_) (fun σ H' hW => ?_)
    · obtain ⟨ds, y2, y3, y4, y5, rfl, hA⟩ := hW
      obtain ⟨z, hz, _⟩ := at_ints (ns := ns) (i := 0 + (i : Int)) (by omega) (by omega)
      refine ⟨_, rfl, _, rfl, _, _, _, _, rfl, rfl, hA.sm.seq hS, hz, _, rfl, ?_⟩
      generalize (if z < 0 then -z else z) = r
      refine ⟨_, rfl, _, _, rfl, rfl, ⟨by decide, by decide, by decide⟩, _, _, rfl, rfl, _, rfl, ite2 (fun e => ?_) (fun e => ?_)⟩
      · -- a great number: its digits
        refine ⟨60, rfl, by decide, by decide, ?_⟩
        refine for_range (lo := 0) (n := 60) (fun j σ H' => ∃ (ds : List Int) (r' : Int) (y4 : Option V), σ = [some (.ref a), some (.ref p), some (.int (0 + (i : Int))), some (.int r'), y4, y5] ∧ DrAt H H' p (60 * i + j) ds)
          ⟨ds, r, y4, rfl, hA⟩ (fun j σ H2 hj hW => ?_) (fun σ H2 hW => ?_)
        · obtain ⟨ds2, r2, y42, rfl, hA2⟩ := hW
          refine ⟨_, rfl, _, _, rfl, rfl, _, rfl, ite2 (fun e => ?_) (fun e => ?_)⟩
          · refine ⟨_, rfl, .inl ⟨rfl, _, SqL.of hA2.at_⟩, _, rfl, .inl ⟨_, rfl, _, _, rfl, rfl, (by show (0 : Int) < 65536; decide), ?_⟩⟩
            refine ⟨p, _, _, rfl, rfl, hA2.at_, ?_, ?_⟩
            · rw [List.length_map]; exact Nat.lt_of_le_of_lt (Nat.le_trans hA2.len (by omega : _ ≤ 4000)) (by decide)
            · refine ⟨_, rfl, _, _, rfl, rfl, (by constructor <;> decide), ?_⟩
              exact ⟨_, _, _, rfl, hA2.more hp (Int.emod_nonneg _ (by decide)) (Int.emod_lt_of_pos _ (by decide))⟩
          · exact ⟨ds2, r2, _, rfl, hA2.mono (by omega)⟩
        · obtain ⟨ds2, r2, y42, rfl, hA2⟩ := hW
          exact ⟨ds2, _, _, _, _, rfl, hA2.mono (by omega)⟩
      · -- a lesser one: two numbers mixed
        refine ⟨_, rfl, _, _, rfl, rfl, .inr (by decide), _, rfl, _, _, rfl, rfl, _, _, rfl, rfl, .inr (by decide), _, _, rfl, rfl, .inl ⟨_, rfl, _, _, rfl, rfl, (by show (0 : Int) < 2147483647; decide), ?_⟩⟩
        refine ⟨_, rfl, _, _, rfl, rfl, .inr (by decide), _, rfl, _, _, rfl, rfl, .inl (by decide), _, _, rfl, rfl, _, _, rfl, rfl, .inl ⟨_, rfl, _, _, rfl, rfl, (by show (0 : Int) < 2147483629; decide), ?_⟩⟩
        have b1 : (ds.map V.int).length < sizeLine := by rw [List.length_map]; exact Nat.lt_of_le_of_lt (Nat.le_trans hA.len (by omega : _ ≤ 4000)) (by decide)
        refine ⟨_, rfl, .inl ⟨rfl, _, SqL.of hA.at_⟩, _, rfl, .inl ⟨_, rfl, _, _, rfl, rfl, (by show (0 : Int) < 65536; decide), p, _, _, rfl, rfl, hA.at_, b1, ?_⟩⟩
        have hB := hA.more hp (z := (((r * 48271 + (0 + (i : Int) + 1) * 69621) % 2147483647 * 16807 + 11 * (0 + (i : Int)) + 5) % 2147483629) % 65536) (Int.emod_nonneg _ (by decide)) (Int.emod_lt_of_pos _ (by decide))
        have b2 : ((ds ++ [(((r * 48271 + (0 + (i : Int) + 1) * 69621) % 2147483647 * 16807 + 11 * (0 + (i : Int)) + 5) % 2147483629) % 65536]).map V.int).length < sizeLine := by rw [List.length_map]; exact Nat.lt_of_le_of_lt (Nat.le_trans hB.len (by omega : _ ≤ 4000)) (by decide)
        refine ⟨_, rfl, .inl ⟨rfl, _, SqL.of hB.at_⟩, _, rfl, _, _, rfl, rfl, (by constructor <;> decide), .inl ⟨_, rfl, _, _, rfl, rfl, (by show (0 : Int) < 32768; decide), p, _, _, rfl, rfl, hB.at_, b2, ?_⟩⟩
        exact ⟨_, _, _, _, _, rfl, (hB.more hp (z := (((r * 48271 + (0 + (i : Int) + 1) * 69621) % 2147483647 * 16807 + 11 * (0 + (i : Int)) + 5) % 2147483629) / 65536 % 32768) (Int.emod_nonneg _ (by decide)) (by have := Int.emod_lt_of_pos ((((r * 48271 + (0 + (i : Int) + 1) * 69621) % 2147483647 * 16807 + 11 * (0 + (i : Int)) + 5) % 2147483629) / 65536) (show (0 : Int) < 32768 by decide); omega)).mono (by omega)⟩
    · obtain ⟨ds, y2, y3, y4, y5, rfl, hA⟩ := hW
      exact ⟨_, rfl, q p ds H' hA.sm hp hA.at_ ⟨Nat.le_trans hA.len (by omega), hA.all⟩⟩
/-- a house drawn -/
def spHouse (K : PySem.W.Frag) : Sp := fun vs H Q _ => ∃ (a : Addr) (ns : List Int) (k : Int) (many most : Nat), vs = [.ref a, .int k, .int many, .int most] ∧ SqL K H a (ns.map V.int) ∧ Dr ns ∧ 0 ≤ k ∧ k < 10000 ∧ many ≤ 8 ∧ most ≤ 40 ∧
  ∀ (p : Addr) (L : PL) (H' : Hp), Same H H' → H p = none → H' p = some (.lst (refs L)) → PairsAt K H' L → L.length ≤ many → IsHs most (L.map (·.2)) → Q (.ref p) H'
/-- the house so far -/
structure HsSo (K : PySem.W.Frag) (H H' : Hp) (p : Addr) (i most : Nat) (num : Int) (L : PL) : Prop where
  sm : Same H H'
  at_ : H' p = some (.lst (refs L))
  ps : PairsAt K H' L
  len : L.length = i
  hs : IsHs most (L.map (·.2))
  lt : ∀ q ∈ L, q.2.1 < num
  n0 : 0 ≤ num
  n1 : num ≤ 3 + 9 * (i : Int)
theorem HsSo.same {H H' H2 : Hp} {p : Addr} {i most : Nat} {num : Int} {L : PL} (h : HsSo K H H' p i most num L) (e : Same H' H2) : HsSo K H H2 p i most num L :=
  ⟨h.sm.trans e, e _ _ h.at_, h.ps.same e, h.len, h.hs, h.lt, h.n0, h.n1⟩
theorem hs_snoc {m : Nat} {h : List (Int × Str)} (a : IsHs m h) {n : Int} {z : Str} (lt : ∀ q ∈ h, q.1 < n) (n0 : 0 ≤ n) (n1 : n ≤ 99) (hz : IsLet z) (hl : z.length ≤ m) : IsHs m (h ++ [(n, z)]) := by
  refine ⟨?_, fun q hq => ?_, fun q hq => ?_⟩
  · rw [List.map_append, List.pairwise_append]
    refine ⟨a.asc, by simp, fun x hx y hy => ?_⟩
    obtain ⟨q, hq, rfl⟩ := List.mem_map.mp hx
    simp at hy
    subst hy
    exact lt q hq
  · rcases List.mem_append.mp hq with m1 | m1
    · exact a.num q m1
    · rw [List.mem_singleton.mp m1]; exact ⟨n0, n1⟩
  · rcases List.mem_append.mp hq with m1 | m1
    · exact a.txt q m1
    · rw [List.mem_singleton.mp m1]; exact ⟨hz, hl⟩
theorem sc__law_house : FnScope ["draws", "k", "many", "most", "house", "number", "n", "text"] ["draws", "k", "many", "most"] (defScope s__law_house) := ⟨rfl, rfl, rfl, by decide +kernel, rfl, by decide +kernel, by decide +kernel⟩
theorem ok__law_house (T : Txt K mg ea) (c__law_mix : Cl P w K mg base 1 "_law_mix" (spDraw K)) (c__law_text : Cl P w K mg base 2 "_law_text" (spText K)) : Cl P w K mg base 3 "_law_house" (spHouse K) := by
  have nd := sc__law_house.nd
  refine cl_of T.d__law_house sc__law_house (fun vs H Q E h => ?_) (fun f cdv A outer s H vs Q E hr h => ?_)
  · obtain ⟨a, ns, k, many, most, rfl, _⟩ := h
    rfl
  · obtain ⟨a, ns, k, many, most, rfl, hS, hD, h0, h1, hm, ho, q⟩ := h
    refine ⟨_, (pss_cons (ps_set (i := 4) nd rfl (.inl rfl) (pe_lst pa_nil))
      (pss_cons (ps_set (i := 5) nd rfl (.inl rfl) (C8.pe_c c__law_mix hr (by decide) (by rfl) (pa_cons (pv 0) (pa_cons (pv 1) (pa_cons pe_int pa_nil)))))
      (pss_cons (ps_for PassesOwn.never rfl (pi_range1 rfl T.b_range (pa_cons (C8.pe_c c__law_mix hr (by decide) (by rfl) (pa_cons (pv 0) (pa_cons (pe_op op_add (pv 1) pe_int) (pa_cons (pe_op op_add (pv 2) pe_int) pa_nil)))) pa_nil)) (pg_name (i := 6) nd rfl (.inl rfl))
        (pss_cons (ps_set (i := 7) nd rfl (.inl rfl) (C8.pe_c c__law_text hr (by decide) (by rfl) (pa_cons (pv 0) (pa_cons (pe_op op_add (pe_op op_add (pv 1) pe_int) (pe_op op_mul pe_int (pv 6))) (pa_cons (pv 3) pa_nil)))))
          (C8.pss_cut (ps_if (PW.pt (pw_and (pt_cmpR op_gt (pv 6) pe_int (nomark _)) (pw_and1 (pt_cmpR op_eq (C8.pe_c c__law_mix hr (by decide) (by rfl) (pa_cons (pv 0) (pa_cons (pe_op op_add (pe_op op_add (pv 1) pe_int) (pv 6)) (pa_cons pe_int pa_nil)))) pe_int (nomark _)))))
            (pss_one (ps_set (i := 7) nd rfl (.inl rfl) (pe_ix (ixt (K := K)) (pe_ix (ixl (K := K)) (pv 4) (pe_op op_sub (pv 6) pe_int) (fun _ _ => rfl)) pe_int (fun _ _ => rfl))))
            pss_nil)
          (pss_cons (ps_expr (pe_bm PySem.F.plainAttrs_list PySem.F.slot_list_append PySem.F.type_list_append mt_append (pv 4) (pa_cons (pe_tup (pa_cons (pv 5) (pa_cons (pv 7) pa_nil))) pa_nil)))
          (pss_one (ps_set (i := 5) nd rfl (.inl rfl) (pe_op op_add (pe_op op_add (pv 5) pe_int) (C8.pe_c c__law_mix hr (by decide) (by rfl) (pa_cons (pv 0) (pa_cons (pe_op op_add (pe_op op_add (pv 1) pe_int) (pv 6)) (pa_cons pe_int pa_nil)))))))))))
      (pss_one (ps_ret (pv 4)))))), ?_⟩
    refine ⟨Nat.zero_le _, fun p hp => ?_⟩
    have sm0 : Same H (upd H p (.lst [])) := same_new hp
    refine ⟨_, rfl, _, rfl, a, ns, k, 4, rfl, sm0.seq hS, hD, by omega, by omega, by omega, fun num u0 u1 => ?_⟩
    refine ⟨_, rfl, _, rfl, _, _, rfl, rfl, _, rfl, _, _, rfl, rfl, a, ns, k + 1, (many : Int) + 1, rfl, sm0.seq hS, hD, by omega, by omega, by omega, fun r r0 r1 => ?_⟩
    refine ⟨r, rfl, by omega, by omega, ?_⟩
    refine for_range (lo := 0) (n := r.toNat) (fun i σ H' => ∃ (L : PL) (num : Int) (y6 y7 : Option V), σ = [some (.ref a), some (.int k), some (.int many), some (.int most), some (.ref p), some (.int num), y6, y7] ∧ HsSo K H H' p i most num L)
      ⟨[], num, none, none, rfl, sm0, upd_same, (fun q hq => by cases hq), rfl, ⟨List.Pairwise.nil, (fun q hq => by cases hq), (fun q hq => by cases hq)⟩, (fun q hq => by cases hq), u0, by omega⟩ (fun i σ H' hi hW => ?_) (fun σ H' hW => ?_)
    · obtain ⟨L, num, y6, y7, rfl, hA⟩ := hW
      refine ⟨_, rfl, _, rfl, _, _, rfl, rfl, _, rfl, _, _, rfl, rfl, .inl (by decide), _, _, rfl, rfl, _, rfl, a, ns, k + 5 + 11 * (0 + (i : Int)), most, rfl, hA.sm.seq hS, hD, by omega, by omega, by omega, fun z H2 sm2 hz hl => ?_⟩
      have hA2 := hA.same sm2
      refine ⟨fun σ H3 => H3 = H2 ∧ ∃ x : Str, IsLet x ∧ x.length ≤ most ∧ σ = [some (.ref a), some (.int k), some (.int many), some (.int most), some (.ref p), some (.int num), some (.int (0 + (i : Int))), some (.str x)], ?_, ?_⟩
      · refine ⟨_, rfl, _, _, rfl, rfl, _, rfl, ite2 (fun e => ?_) (fun e => iteF ⟨rfl, z, hz, hl, rfl⟩)⟩
        have e' := of_decide_eq_true e
        refine ⟨_, rfl, _, rfl, _, _, rfl, rfl, _, rfl, _, _, rfl, rfl, a, ns, k + 3 + (0 + (i : Int)), 5, rfl, hA2.sm.seq hS, hD, by omega, by omega, by omega, fun r5 _ _ => ?_⟩
        refine ⟨rfl, _, rfl, ite2 (fun e2 => ?_) (fun e2 => ⟨rfl, z, hz, hl, rfl⟩)⟩
        obtain ⟨t, ht, hm2⟩ := at_map (fun q : Addr × Int × Str => V.ref q.1) (xs := L) (i := (0 + (i : Int)) - 1) (by omega) (by have := hA.len; omega)
        refine ⟨_, rfl, _, rfl, _, _, rfl, rfl, p, _, _, _, rfl, rfl, SqL.of hA2.at_, ht, _, _, _, _, rfl, rfl, hA2.ps t hm2, (show atI [V.int t.2.1, V.str t.2.2] 1 = some (.str t.2.2) from rfl), rfl, t.2.2, ?_⟩
        have := hA.hs.txt t.2 (List.mem_map_of_mem hm2)
        exact ⟨this.1, this.2, rfl⟩
      · rintro σ' H3 ⟨rfl, x, hx, hxl, rfl⟩
        refine ⟨_, rfl, .inl ⟨rfl, _, SqL.of hA2.at_⟩, _, rfl, _, rfl, (by show 2 ≤ sizeLine; decide), fun t ht => ?_⟩
        have pt : p ≠ t := ne_of_none hA2.at_ ht
        have at2 : (upd H3 t (.tup [.int num, .str x])) p = some (.lst (refs L)) := by rw [upd_ne pt]; exact hA2.at_
        refine ⟨p, _, _, rfl, rfl, at2, ?_, ?_⟩
        · show (L.map _).length < sizeLine
          rw [List.length_map, hA2.len]; exact Nat.lt_of_le_of_lt (by omega : i ≤ 1000) (by decide)
        have sm3 : Same H3 (upd H3 t (.tup [.int num, .str x])) := same_new ht
        have smp : ∀ o, Same H (upd (upd H3 t (.tup [.int num, .str x])) p o) := fun o => same_mut (hA2.sm.trans sm3) hp
        refine ⟨_, rfl, _, _, rfl, rfl, _, rfl, _, rfl, _, _, rfl, rfl, _, rfl, _, _, rfl, rfl, a, ns, k + 4 + (0 + (i : Int)), 9, rfl, (smp _).seq hS, hD, by omega, by omega, by omega, fun g g0 g1 => ?_⟩
        have n0 := hA.n0
        have n1 := hA.n1
        refine ⟨_, _, rfl, rfl, L ++ [(t, num, x)], _, _, _, rfl, smp _, ?_, ?_, ?_, ?_, ?_, ?_, ?_⟩
        · rw [upd_same]; show _ = some (HO.lst (List.map _ _)); rw [List.map_append]; rfl
        · intro q hq
          have nq : ∀ {b : Addr} {xs : List V}, SqT K (upd H3 t (.tup [.int num, .str x])) b xs → SqT K (upd (upd H3 t (.tup [.int num, .str x])) p (.lst (refs L ++ [.ref t]))) b xs := fun {b xs} h => by
            rcases h with (h | ⟨o, h⟩) | h
            · exact .inl (.inl (by rw [upd_ne (fun z => by rw [z, at2] at h; cases h)]; exact h))
            · exact .inl (.inr ⟨o, by rw [upd_ne (fun z => by rw [z, at2] at h; cases h)]; exact h⟩)
            · exact .inr h
          rcases List.mem_append.mp hq with m1 | m1
          · exact nq (same_tup sm3 (hA2.ps q m1))
          · rw [List.mem_singleton.mp m1]; exact nq (.inl (.inl upd_same))
        · rw [List.length_append, hA.len]; rfl
        · rw [List.map_append]
          exact hs_snoc hA.hs (fun q hq => by obtain ⟨y, hy, rfl⟩ := List.mem_map.mp hq; exact hA.lt y hy) n0 (by omega) hx hxl
        · intro q hq
          rcases List.mem_append.mp hq with m1 | m1
          · have := hA.lt q m1; omega
          · rw [List.mem_singleton.mp m1]; show num < _; omega
        · omega
        · omega
    · obtain ⟨L, num, y6, y7, rfl, hA⟩ := hW
      exact ⟨_, rfl, q p L H' hA.sm hp hA.at_ hA.ps (by have := hA.len; omega) hA.hs⟩
end

section
variable {P : Program} {w : World} {K : PySem.W.Frag} {mg : Str → Option Value} {base : Heap} {ea : Ea}
theorem sc_init : FnScope ["self", "at"] ["self", "at"] (defScope s_init) := ⟨rfl, rfl, rfl, by decide +kernel, rfl, by decide +kernel, by decide +kernel⟩
theorem ok_init (T : Txt K mg ea) : InitOk P w K mg base ea.fI := by
  obtain ⟨fd, F, b, t⟩ := T.init.ex
  refine ⟨fd, F.ok sc_init (fun vs H Q E h => ?_) (fun cdv A outer s H vs Q E hr h => ?_), b, t⟩
  · obtain ⟨a, C, n, rfl, _⟩ := h
    rfl
  · obtain ⟨a, C, n, rfl, To, Tn, hs, ha, q⟩ := h
    refine ⟨_, pss_cons (ps_ost (pv 0) (pv 1)) (pss_one (ps_if (pt_cmpR op_gt (pe_bits (pv 1)) pe_int (nomark _)) pss_never pss_nil)), ?_⟩
    refine ⟨_, rfl, _, rfl, a, C, rfl, To, Tn, .inl ⟨ha, fun dx n1 n2 => ?_⟩⟩
    refine ⟨_, rfl, n, rfl, _, _, rfl, rfl, _, rfl, ?_⟩
    rw [small_bits hs]
    exact iteF (q dx n1 n2)
end

end SH
set_option Elab.async false
set_option linter.all false
set_option maxRecDepth 100000
set_option maxHeartbeats 4000000
namespace SH
open PySem PySem.Spec PyProof.Rows L2
section
variable {P : Program} {w : World} {K : PySem.W.Frag} {mg : Str → Option Value} {base : Heap} {ea : Ea}
theorem short_line {n : Nat} (h : n ≤ 100000) : n ≤ sizeLine := Nat.le_trans h (by decide)
/-- the number of a numeral, or None -/
def optV : Option Nat → V
  | some n => .int (n : Int)
  | none => .non
def spNumber : Sp := fun vs H Q _ => ∃ z : Str, vs = [.str z] ∧ z.length ≤ 100000 ∧ ∀ H', Same H H' → Q (optV (numIn (TL.tl z))) H'
theorem tl_len (z : Str) : z.length = (TL.tl z).length := TL.len_tl z
theorem mk_S (z : Str) : z = SX.S (TL.tl z) := (TL.mk_tl z).symm
theorem num_back {a : List Nat} {n : Nat} (h : numIn a = some n) : SX.S (TL.numL n) = SX.S a ∧ PySem.intText? (SX.S a) = some (n : Int) := by
  match a, h with
  | [c], h =>
    obtain ⟨h1, h2⟩ := numIn_one.mp h
    have r := dg_iff.mp h1
    subst h2
    refine ⟨?_, ?_⟩
    · rw [TL.numL_lt (by omega), show 48 + (c - 48) = c by omega]
    · have e := SX.int_S (a := [c]) (by simpa [dg] using h1) (by simp) (by show 1 ≤ 4300; decide)
      rw [e]
      show some (((0 * 10 + (c - 48) : Nat)) : Int) = _
      rw [Nat.zero_mul, Nat.zero_add]
  | [c, d], h =>
    obtain ⟨h1, h2, h3, h4⟩ := numIn_two.mp h
    have r1 := dg_iff.mp h1
    have r2 := dg_iff.mp h2
    refine ⟨?_, ?_⟩
    · rw [TL.numL_step (by omega), show n / 10 = c - 48 by omega, show n % 10 = d - 48 by omega, TL.numL_lt (by omega), show 48 + (c - 48) = c by omega, show 48 + (d - 48) = d by omega]
      rfl
    · have e := SX.int_S (a := [c, d]) (by simp [dg] at h1 h2 ⊢; omega) (by simp) (by show 2 ≤ 4300; decide)
      rw [e, h4]
      show some ((((0 * 10 + (c - 48)) * 10 + (d - 48) : Nat)) : Int) = _
      rw [Nat.zero_mul, Nat.zero_add]
  | [], h => cases h
  | _ :: _ :: _ :: _, h => cases h
/-- digits of one or two signs, with a nought ahead -/
theorem num_nought {a : List Nat} (h1 : a.length = 1 ∨ a.length = 2) (hd : a.all dg = true) (hn : numIn a = none) : ∃ v : Nat, PySem.intText? (SX.S a) = some (v : Int) ∧ SX.S (TL.numL v) ≠ SX.S a ∧ v ≤ 99 := by
  match a, h1 with
  | [c], _ =>
    have : dg c = true := by simpa using hd
    have e : numIn [c] = some (c - 48) := numIn_one.mpr ⟨this, rfl⟩
    rw [hn] at e
    cases e
  | [c, d], _ =>
    have hcd : dg c = true ∧ dg d = true := by simpa using hd
    have r1 := dg_iff.mp hcd.1
    have r2 := dg_iff.mp hcd.2
    have c48 : c = 48 := Decidable.byContradiction fun z => by
      have e : numIn [c, d] = some ((c - 48) * 10 + (d - 48)) := numIn_two.mpr ⟨hcd.1, hcd.2, z, rfl⟩
      rw [hn] at e
      cases e
    subst c48
    refine ⟨d - 48, ?_, ?_, by omega⟩
    · have e := SX.int_S (a := [48, d]) (by simp [dg] at hcd ⊢; omega) (by simp) (by show 2 ≤ 4300; decide)
      rw [e]
      show some ((((0 * 10 + (48 - 48)) * 10 + (d - 48) : Nat)) : Int) = _
      simp
    · rw [TL.numL_lt (by omega)]
      intro z
      have := SX.S_inj z
      simp at this
  | [], h => simp at h
  | _ :: _ :: _ :: _, h => simp at h
theorem sc__number_of : FnScope ["numeral", "number"] ["numeral"] (defScope s__number_of) := ⟨rfl, rfl, rfl, by decide +kernel, rfl, by decide +kernel, by decide +kernel⟩
theorem ok__number_of (T : Txt K mg ea) : Cl P w K mg base 1 "_number_of" spNumber := by
  have nd := sc__number_of.nd
  refine cl_of T.d__number_of sc__number_of (fun vs H Q E h => ?_) (fun f cdv A outer s H vs Q E hr h => ?_)
  · obtain ⟨z, rfl, _⟩ := h
    rfl
  · obtain ⟨z, rfl, hl, q⟩ := h
    refine ⟨_, (pss_cons (ps_if (PW.pt (pw_or (pt_cmpR op_gt (pe_callB call_len_str (by rfl) T.b_len PySem.boot_len (pa_cons (pv 0) pa_nil)) pe_int (nomark _)) (pw_or (pt_not (pt_val (pe_m0 PySem.F.slot_str_isascii PySem.F.type_str_isascii mt_isascii (pv 0)))) (pw_or1 (pt_not (pt_val (pe_m0 PySem.F.slot_str_isdigit PySem.F.type_str_isdigit mt_isdigit (pv 0))))))))
        (pss_one (ps_ret pe_non))
        pss_nil)
      (pss_cons (ps_set (i := 1) nd rfl (.inl rfl) (pe_callTy call_int_str (by rfl) T.b_int (by decide +kernel) (pa_cons (pv 0) pa_nil)))
      (pss_cons (ps_if (pt_cmpR op_ne (pe_callTy call_str_int (by rfl) T.b_str (by decide +kernel) (pa_cons (pv 1) pa_nil)) (pv 0) (nomark _))
        (pss_one (ps_ret pe_non))
        pss_nil)
      (pss_one (ps_ret (pv 1)))))), ?_⟩
    have ez := mk_S z
    have el := tl_len z
    have none_ : numIn (TL.tl z) = none → Q .non H := fun e => by
      have := q H (Same.refl H)
      rw [e] at this
      exact this
    refine ⟨_, rfl, z, rfl, short_line hl, _, _, rfl, rfl, _, rfl, ite2 (fun e => ?_) (fun e => ?_)⟩
    · have e1 := of_decide_eq_true e
      refine none_ ?_
      cases h : numIn (TL.tl z) with
      | none => rfl
      | some n => have := numIn_len h; omega
    · have l2 : z.length ≤ 2 := by
        have : ¬ (2 : Int) < (z.length : Int) := fun y => e (decide_eq_true y)
        omega
      -- digits of ascii
      refine ⟨_, rfl, ⟨_, rfl⟩, z, rfl, rfl, trivial, _, rfl, ite2 (fun e2 => ?_) (fun e2 => ?_)⟩
      · refine none_ ?_
        have e3 : Txt.isascii z = false := by simpa using e2
        cases h : numIn (TL.tl z) with
        | none => rfl
        | some n =>
          have a : z.cps.all (fun c => decide (c < 128)) = true := by
            rw [← Array.all_toList]
            refine List.all_eq_true.mpr fun c hc => ?_
            match hz : TL.tl z, h with
            | [c1], h =>
              have m : c ∈ TL.tl z := hc
              rw [hz] at m
              obtain ⟨h1, _⟩ := numIn_one.mp h
              rw [List.mem_singleton.mp m]
              exact decide_eq_true (by have := dg_iff.mp h1; omega)
            | [c1, c2], h =>
              have m : c ∈ TL.tl z := hc
              rw [hz] at m
              obtain ⟨h1, h2, _⟩ := numIn_two.mp h
              rcases List.mem_cons.mp m with e | m
              · rw [e]; exact decide_eq_true (by have := dg_iff.mp h1; omega)
              · rw [List.mem_singleton.mp m]; exact decide_eq_true (by have := dg_iff.mp h2; omega)
            | [], h => cases h
            | _ :: _ :: _ :: _, h => cases h
          have : Txt.isascii z = true := a
          rw [e3] at this
          cases this
      · have asc : ∀ c ∈ TL.tl z, c < 128 := by
          have e3 : Txt.isascii z = true := by simpa using e2
          have a : z.cps.all (fun c => decide (c < 128)) = true := e3
          rw [← Array.all_toList] at a
          exact fun c hc => of_decide_eq_true (List.all_eq_true.mp a c hc)
        have dig : Txt.isdigit z = (decide (0 < z.length) && (TL.tl z).all dg) := by
          show (decide (z.length > 0) && z.cps.all Unicode.isDigit) = _
          rw [← Array.all_toList]
          have : z.cps.toList.all Unicode.isDigit = (TL.tl z).all dg := by
            show (TL.tl z).all Unicode.isDigit = (TL.tl z).all dg
            rw [Bool.eq_iff_iff, List.all_eq_true, List.all_eq_true]
            exact ⟨fun h c hc => by rw [← digit_ascii c (asc c hc)]; exact h c hc, fun h c hc => by rw [digit_ascii c (asc c hc)]; exact h c hc⟩
          rw [this]
        refine ⟨_, rfl, ⟨_, rfl⟩, z, rfl, rfl, trivial, _, rfl, ite2 (fun e3 => ?_) (fun e3 => ?_)⟩
        · refine none_ ?_
          have e4 : Txt.isdigit z = false := by simpa using e3
          rw [dig] at e4
          cases h : numIn (TL.tl z) with
          | none => rfl
          | some n =>
            have p : (decide (0 < z.length) && (TL.tl z).all dg) = true := by
              have nl := numIn_len h
              rw [decide_eq_true (by omega), Bool.true_and]
              match hz : TL.tl z, h with
              | [c1], h =>
                obtain ⟨h1, _⟩ := numIn_one.mp h
                simp [h1]
              | [c1, c2], h =>
                obtain ⟨h1, h2, _⟩ := numIn_two.mp h
                simp [h1, h2]
              | [], h => cases h
              | _ :: _ :: _ :: _, h => cases h
            rw [p] at e4
            cases e4
        · have e4 : Txt.isdigit z = true := by simpa using e3
          rw [dig] at e4
          obtain ⟨p1, p2⟩ := Bool.and_eq_true_iff.mp e4
          have p3 := of_decide_eq_true p1
          have p4 : (TL.tl z).length = 1 ∨ (TL.tl z).length = 2 := by omega
          cases h : numIn (TL.tl z) with
          | some n =>
            obtain ⟨b1, b2⟩ := num_back h
            have n9 := numIn_le h
            refine ⟨_, rfl, z, n, rfl, (by rw [ez]; exact b2), by omega, ?_⟩
            refine ⟨_, rfl, (n : Int), rfl, log_small (by omega), _, rfl, rfl, _, rfl, ?_⟩
            have es : (toString (n : Int) : Str) = z := by
              show Str.ofString (toString ((n : Nat) : Int)) = z
              rw [SX.num_S, b1, ← ez]
            refine iteNS (by rw [es]) ⟨_, rfl, ?_⟩
            have := q H (Same.refl H)
            rw [h] at this
            exact this
          | none =>
            obtain ⟨v, b1, b2, v9⟩ := num_nought p4 p2 h
            refine ⟨_, rfl, z, v, rfl, (by rw [ez]; exact b1), by omega, ?_⟩
            refine ⟨_, rfl, (v : Int), rfl, log_small (by omega), _, rfl, rfl, _, rfl, ite2 (fun _ => none_ h) (fun e5 => absurd ?_ e5)⟩
            have ne : ¬ V.str (toString (v : Int) : Str) = V.str z := fun y => by
              injection y with y
              have y2 : Str.ofString (toString ((v : Nat) : Int)) = z := y
              rw [SX.num_S] at y2
              exact b2 (y2.trans ez)
            rw [decide_eq_false ne]
            rfl
theorem dg_mem (c : Nat) : decide (c ∈ ("0123456789" : Str).cps.toList) = dg c := by
  have e : ("0123456789" : Str).cps.toList = [48, 49, 50, 51, 52, 53, 54, 55, 56, 57] := by decide
  rw [e]
  by_cases h : dg c = true
  · rw [h]
    have := dg_iff.mp h
    exact decide_eq_true (by simp; omega)
  · have h2 : dg c = false := by simpa using h
    rw [h2]
    refine decide_eq_false fun m => h (dg_iff.mpr ?_)
    simp at m
    omega
theorem sc__law_number : FnScope ["word", "c"] ["word"] (defScope s__law_number) := ⟨rfl, rfl, rfl, by decide +kernel, rfl, by decide +kernel, by decide +kernel⟩
theorem ok__law_number (T : Txt K mg ea) : Cl P w K mg base 1 "_law_number" spNumber := by
  have nd := sc__law_number.nd
  refine cl_of T.d__law_number sc__law_number (fun vs H Q E h => ?_) (fun f cdv A outer s H vs Q E hr h => ?_)
  · obtain ⟨z, rfl, _⟩ := h
    rfl
  · obtain ⟨z, rfl, hl, q⟩ := h
    refine ⟨_, (pss_cons (ps_if (PW.pt (pw_or (pt_not (pt_chain op_le op_le pe_int (pe_callB call_len_str (by rfl) T.b_len PySem.boot_len (pa_cons (pv 0) pa_nil)) pe_int)) (pw_or1 (pt_cmpR op_gt (pe_callB call_len_seq (by rfl) T.b_len PySem.boot_len (pa_cons (pe_lc (own := [("c", 1)]) (g := (gName 1)) rfl nd (pi_str (pv 0)) (blkOk_by (own := [("c", 1)]) (N := ["word", "c"]) (sc := defScope s__law_number) (by decide +kernel)) (fun _ _ _ _ _ => (pg_name (i := 1) nd rfl (.inl rfl))) (fun _ _ _ _ _ => pts_one (pt_cmpR op_notIn_sign (pv 1) pe_str rfl)) (fun _ _ _ _ _ => (pv 1))) pa_nil)) pe_int (nomark _)))))
        (pss_one (ps_ret pe_non))
        pss_nil)
      (pss_cons (ps_if (PW.pt (pw_and (pt_cmpR op_eq (pe_callB call_len_str (by rfl) T.b_len PySem.boot_len (pa_cons (pv 0) pa_nil)) pe_int (nomark _)) (pw_and1 (pt_cmpR op_eq (pe_ix ix_str (pv 0) pe_int (fun _ _ => rfl)) pe_str (nomark _)))))
        (pss_one (ps_ret pe_non))
        pss_nil)
      (pss_one (ps_ret (pe_callTy call_int_str (by rfl) T.b_int (by decide +kernel) (pa_cons (pv 0) pa_nil)))))), ?_⟩
    have ez := mk_S z
    have el := tl_len z
    have none_ : ∀ H', Same H H' → numIn (TL.tl z) = none → Q .non H' := fun H' s e => by
      have := q H' s
      rw [e] at this
      exact this
    refine ⟨_, rfl, z, rfl, short_line hl, _, _, rfl, rfl, _, rfl, ite2 (fun e => ?_) (fun e => ?_)⟩
    · have p1 := of_decide_eq_true e
      refine ⟨_, _, rfl, rfl, _, rfl, ?_⟩
      by_cases p2 : (z.length : Int) ≤ 2
      · rw [decide_eq_true p2]
        refine ⟨_, rfl, z, rfl, fun D hD => ?_⟩
        refine lc_w walk_str hD (by show z.cps.size ≤ 100000; exact hl) (fun _ _ => trivial) (fun i acc _ => acc = (((TL.tl z).take i).filter fun c => !dg c).map fun c => V.str ⟨#[c]⟩) (fun _ _ => rfl) (fun _ _ _ _ _ _ _ r => r) (fun i H x H' y => by rw [y.1]; exact Same.refl _) (fun i x acc H1 H2 Qn Qf hi sm y r at_ kn kf => ?_) (fun acc H1 sm at_ _ r => ?_)
        · obtain ⟨rfl, c, hc, rfl⟩ := y
          have hc2 : (TL.tl z)[i]? = some c := by show z.cps.toList[i]? = some c; rw [Array.getElem?_toList]; exact hc
          refine ⟨rfl, _, rfl, c, _, rfl, rfl, _, rfl, ?_⟩
          rw [dg_mem]
          cases ed : dg c with
          | true =>
            refine kf _ (Same.refl _) ?_
            rw [r, List.take_add_one, List.filter_append, hc2]
            show _ = List.map _ (_ ++ [c].filter _)
            rw [List.filter_cons_of_neg (by rw [ed]; decide), List.filter_nil, List.append_nil]
          | false =>
            refine ⟨_, rfl, kn _ _ (Same.refl _) ?_⟩
            rw [r, List.take_add_one, List.filter_append, hc2]
            show _ = List.map _ (_ ++ [c].filter _)
            rw [List.filter_cons_of_pos (by rw [ed]; rfl), List.map_append]
            rfl
        · have full : (TL.tl z).take z.cps.size = TL.tl z := List.take_of_length_le (by show z.cps.toList.length ≤ z.cps.size; simp)
          rw [full] at r
          have la : acc.length = ((TL.tl z).filter fun c => !dg c).length := by rw [r, List.length_map]
          refine ⟨D, acc, rfl, .inl (.inl (.inl at_)), _, _, rfl, rfl, _, rfl, ite2 (fun e2 => ?_) (fun e2 => ?_)⟩
          · refine none_ H1 sm ?_
            have p3 := of_decide_eq_true e2
            cases hn : numIn (TL.tl z) with
            | none => rfl
            | some n =>
              have : (TL.tl z).all dg = true := by
                match hz : TL.tl z, hn with
                | [c1], h => simp [(numIn_one.mp h).1]
                | [c1, c2], h => simp [(numIn_two.mp h).1, (numIn_two.mp h).2.1]
                | [], h => cases h
                | _ :: _ :: _ :: _, h => cases h
              have z0 : ((TL.tl z).filter fun c => !dg c) = [] := List.filter_eq_nil_iff.mpr fun c hc => by
                rw [List.all_eq_true.mp this c hc]
                decide
              rw [la, z0] at p3
              simp at p3
          · have p3 : ¬ (0 : Int) < (acc.length : Int) := fun y => e2 (decide_eq_true y)
            have alld : (TL.tl z).all dg = true := by
              have z0 : ((TL.tl z).filter fun c => !dg c) = [] := List.length_eq_zero_iff.mp (by omega)
              refine List.all_eq_true.mpr fun c hc => ?_
              have := List.filter_eq_nil_iff.mp z0 c hc
              simpa using this
            refine ⟨_, rfl, z, rfl, short_line hl, rfl, _, rfl, ite2 (fun e4 => ?_) (fun e4 => ?_)⟩
            · have l2 : z.length = 2 := by have := of_decide_eq_true e4; injection this with this; omega
              obtain ⟨c, d, hcd⟩ : ∃ c d, TL.tl z = [c, d] := by
                match hz : TL.tl z, (by rw [← el]; exact l2 : (TL.tl z).length = 2) with
                | [c, d], _ => exact ⟨c, d, rfl⟩
              refine ⟨_, rfl, z, 0, c, rfl, rfl, short_line hl, (by show atI (TL.tl z) 0 = some c; rw [hcd]; exact atI_nat (j := 0) rfl), rfl, _, rfl, ite2 (fun e5 => ?_) (fun e5 => ?_)⟩
              · refine none_ H1 sm ?_
                have c48 : c = 48 := by
                  have := of_decide_eq_true e5
                  injection this with this
                  have t := congrArg (fun x : Str => x.cps.toList) this
                  have t2 : [c] = [48] := t
                  simpa using t2
                rw [hcd, c48]
                cases hn : numIn [48, d] with
                | none => rfl
                | some n => exact absurd rfl (numIn_two.mp hn).2.2.1
              · have c48 : c ≠ 48 := fun y => e5 (decide_eq_true (by rw [y]; rfl))
                have hn : numIn (TL.tl z) = some ((c - 48) * 10 + (d - 48)) := by
                  rw [hcd] at alld ⊢
                  have : dg c = true ∧ dg d = true := by simpa using alld
                  exact numIn_two.mpr ⟨this.1, this.2, c48, rfl⟩
                obtain ⟨_, b2⟩ := num_back hn
                refine ⟨_, rfl, z, _, rfl, (by rw [ez]; exact b2), by omega, ?_⟩
                have := q H1 sm
                rw [hn] at this
                exact this
            · have l1 : z.length = 1 := by
                have : ¬ V.int (z.length : Int) = V.int 2 := fun y => e4 (decide_eq_true y)
                have n2 : z.length ≠ 2 := fun y => this (by rw [y]; rfl)
                omega
              obtain ⟨c, hc⟩ : ∃ c, TL.tl z = [c] := by
                match hz : TL.tl z, (by rw [← el]; exact l1 : (TL.tl z).length = 1) with
                | [c], _ => exact ⟨c, rfl⟩
              have hn : numIn (TL.tl z) = some (c - 48) := by
                rw [hc] at alld ⊢
                exact numIn_one.mpr ⟨by simpa using alld, rfl⟩
              obtain ⟨_, b2⟩ := num_back hn
              refine ⟨_, rfl, z, _, rfl, (by rw [ez]; exact b2), by omega, ?_⟩
              have := q H1 sm
              rw [hn] at this
              exact this
      · rw [decide_eq_false p2]
        refine none_ H (Same.refl H) ?_
        cases hn : numIn (TL.tl z) with
        | none => rfl
        | some n => have := numIn_len hn; omega
    · refine ⟨_, rfl, ?_⟩
      have p1 : ¬ (1 : Int) ≤ (z.length : Int) := fun y => e (decide_eq_true y)
      refine none_ H (Same.refl H) ?_
      cases hn : numIn (TL.tl z) with
      | none => rfl
      | some n => have := numIn_len hn; omega
/-- an error of the class at C with this number leaves -/
def Errs (E : XK) (H : Hp) (C : Addr) (n : Int) : Prop := ∀ (d : Addr) (H2 : Hp), Same H H2 → H d = none → H2 d = some (.xd [(("at" : Str), .int n)]) → E (.ref C) (some d) H2
theorem Errs.same {E : XK} {H H' : Hp} {C : Addr} {n : Int} (s : Same H H') (h : Errs E H C n) : Errs E H' C n := fun d H2 s2 nd e => h d H2 (s.trans s2) (s.free nd) e
theorem refs_len (L : PL) : (refs L).length = L.length := List.length_map ..
theorem drop_at {α : Type} {l : List α} {i : Nat} {x : α} (h : l[i]? = some x) : l.drop i = x :: l.drop (i + 1) := by
  obtain ⟨hi, e⟩ := List.getElem?_eq_some_iff.mp h
  rw [List.drop_eq_getElem_cons hi, e]
def spReadLine (K : PySem.W.Frag) (ea : Ea) : Sp := fun vs H Q E => ∃ (z : Str) (k : Int), vs = [.str z, .int k] ∧ z.length ≤ 100000 ∧ Small k ∧
  (∀ (n : Nat) (b : Str), lineR z = .inl (n, b) → ∀ (t : Addr) (H' : Hp), Same H H' → H' t = some (.tup [.int (n : Int), .str b]) → Q (.ref t) H') ∧
  (lineR z = .inr .line → Errs E H ea.c_BadLine k) ∧ (lineR z = .inr .text → Errs E H ea.c_BadText k)
theorem sc__read_line : FnScope ["line", "at", "numeral", "colon", "letters", "number"] ["line", "at"] (defScope s__read_line) := ⟨rfl, rfl, rfl, by decide +kernel, rfl, by decide +kernel, by decide +kernel⟩
theorem ok__read_line (T : Txt K mg ea) (c__number_of : Cl P w K mg base 1 "_number_of" spNumber) : ClX P w K mg base 3 "_read_line" (spReadLine K ea) := by
  have nd := sc__read_line.nd
  refine clx_of T.d__read_line sc__read_line (fun vs H Q E h => ?_) (fun f cdv A outer s H vs Q E hr h => ?_)
  · obtain ⟨z, k, rfl, _⟩ := h
    rfl
  · obtain ⟨z, k, rfl, hl, hs, q1, q2, q3⟩ := h
    refine ⟨_, (pss_cons (ps_asg (pe_partition (pv 0) pe_str) (pg_tup rfl (pgs_cons (pg_name (i := 2) nd rfl (.inl rfl)) (pgs_cons (pg_name (i := 3) nd rfl (.inl rfl)) (pgs_cons (pg_name (i := 4) nd rfl (.inl rfl)) pgs_nil)))))
      (pss_cons (ps_set (i := 5) nd rfl (.inl rfl) (C8.pe_c c__number_of hr (by decide) (by rfl) (pa_cons (pv 2) pa_nil)))
      (pss_cons (ps_if (PW.pt (pw_or (pt_cmpR op_eq (pv 3) pe_str (nomark _)) (pw_or1 (pt_cmpR op_isN (pv 5) pe_non (nomark _)))))
        (pss_one (ps_raise rfl (takes_of rfl rfl rfl rfl) (pmk_at T.x_BadLine (ok_init T) hr (by decide) (by rfl) (pa_cons (pv 1) pa_nil))))
        pss_nil)
      (pss_cons (ps_if (pt_cmpR op_gt (pe_callB call_len_str (by rfl) T.b_len PySem.boot_len (pa_cons (pv 4) pa_nil)) (pe_k T.m__MOST_LETTERS) (nomark _))
        (pss_one (ps_raise rfl (takes_of rfl rfl rfl rfl) (pmk_at T.x_BadText (ok_init T) hr (by decide) (by rfl) (pa_cons (pv 1) pa_nil))))
        pss_nil)
      (pss_one (ps_ret (pe_tup (pa_cons (pv 5) (pa_cons (pv 4) pa_nil))))))))), ?_⟩
    refine ⟨_, rfl, ⟨_, rfl⟩, z, _, rfl, rfl, rfl, short_line hl, fun p np => ?_⟩
    have s1 := same_new (o := .tup [.str (Txt.partition z ":").1, .str (Txt.partition z ":").2.1, .str (Txt.partition z ":").2.2]) np
    refine ⟨p, _, rfl, .inl (.inl upd_same), rfl, _, _, rfl, _, _, rfl, _, _, rfl, rfl, ?_⟩
    rcases col_cases z with ⟨e1, e2, _⟩ | ⟨i, a, b, e1, e2, _, ta, tb, hi⟩
    · rw [e2] at s1 ⊢
      have er : lineR z = .inr .line := by unfold lineR; rw [e1]
      refine ⟨_, rfl, z, rfl, hl, fun H2 s2 => ?_⟩
      refine ⟨_, rfl, rfl, _, rfl, ite2 (fun _ => ?_) (fun e => absurd (decide_eq_true rfl) e)⟩
      exact ⟨_, rfl, mk_at T.x_BadLine.o T.x_BadLine.no hs ((q2 er).same (s1.trans s2))⟩
    · rw [e2] at s1 ⊢
      have la : a.length ≤ 100000 := by
        rw [tl_len, ta, List.length_take]
        have := tl_len z
        omega
      have lb : b.length ≤ 100000 := by
        rw [tl_len, tb, List.length_drop]
        have := tl_len z
        omega
      refine ⟨_, rfl, a, rfl, la, fun H2 s2 => ?_⟩
      have s12 := s1.trans s2
      refine ⟨_, rfl, rfl, _, rfl, ite2 (fun e => absurd (show decide (V.str (":" : Str) = V.str ("" : Str)) = true from e) (by decide)) (fun _ => ?_)⟩
      cases hn : numIn (TL.tl a) with
      | none =>
        have er : lineR z = .inr .line := by unfold lineR; rw [e1]; show (match numIn (TL.tl a) with | none => _ | some n => _) = _; rw [hn]
        refine ⟨_, rfl, rfl, _, rfl, ?_⟩
        exact ⟨_, rfl, mk_at T.x_BadLine.o T.x_BadLine.no hs ((q2 er).same s12)⟩
      | some n =>
        have er : lineR z = if 40 < b.length then .inr .text else .inl (n, b) := by unfold lineR; rw [e1]; show (match numIn (TL.tl a) with | none => _ | some n => _) = _; rw [hn]
        refine ⟨_, rfl, rfl, _, rfl, ?_⟩
        refine ⟨_, rfl, b, rfl, short_line lb, _, _, rfl, rfl, _, rfl, ite2 (fun e => ?_) (fun e => ?_)⟩
        · have l40 := of_decide_eq_true e
          rw [if_pos (by omega)] at er
          exact ⟨_, rfl, mk_at T.x_BadText.o T.x_BadText.no hs ((q3 er).same s12)⟩
        · have l40 : ¬ (40 : Int) < (b.length : Int) := fun y => e (decide_eq_true y)
          rw [if_neg (by omega)] at er
          exact ⟨_, rfl, _, rfl, (by show 2 ≤ sizeLine; decide), fun t nt => q1 n b er t _ (s12.trans (same_new nt)) upd_same⟩
/-- a house that has been read: a new list p of new pairs -/
def ReadHs (Q : VK) (H : Hp) (h : List (Int × Str)) : Prop := ∀ (p : Addr) (L' : PL) (H' : Hp), Same H H' → H p = none → H' p = some (.lst (refs L')) → (∀ q ∈ L', H' q.1 = some (.tup [.int q.2.1, .str q.2.2])) → L'.map (·.2) = h → Q (.ref p) H'
def ftOf (ea : Ea) : Ft → Addr
  | .line => ea.c_BadLine
  | .text => ea.c_BadText
  | .order => ea.c_WrongOrder
  | .many => ea.c_TooMany
def spReadHouse (ea : Ea) : Sp := fun vs H Q E => ∃ z : Str, vs = [.str z] ∧ z.length ≤ 50000 ∧ (∀ h, rdT z = .inl h → ReadHs Q H h) ∧ (∀ (t : Ft) (k : Nat), rdT z = .inr (t, k) → Errs E H (ftOf ea t) (k : Int))
/-- the parts of a text between its newlines -/
theorem split_facts (z : Str) : Txt.split z "\n" ≠ [] ∧ (Txt.split z "\n").length ≤ z.length + 1 ∧ ∀ x ∈ Txt.split z "\n", x.length ≤ z.length := by
  have key : ∀ (l : List Nat) (acc : List Nat), TL.spl [10] 0 acc l ≠ [] ∧ (TL.spl [10] 0 acc l).length ≤ l.length + 1 ∧ ∀ x ∈ TL.spl [10] 0 acc l, x.length ≤ acc.length + l.length := by
    intro l
    induction l with
    | nil =>
      intro acc
      rw [TL.spl_nil]
      exact ⟨by simp, by simp, fun x hx => by rw [List.mem_singleton.mp hx]; simp⟩
    | cons c r ih =>
      intro acc
      show (if TL.pre [10] (c :: r) = true then acc :: TL.spl [10] 0 [] r else TL.spl [10] 0 (acc ++ [c]) r) ≠ [] ∧ (if TL.pre [10] (c :: r) = true then acc :: TL.spl [10] 0 [] r else TL.spl [10] 0 (acc ++ [c]) r).length ≤ _ ∧ ∀ x ∈ (if TL.pre [10] (c :: r) = true then acc :: TL.spl [10] 0 [] r else TL.spl [10] 0 (acc ++ [c]) r), _
      by_cases h : TL.pre [10] (c :: r) = true
      · rw [if_pos h]
        obtain ⟨i1, i2, i3⟩ := ih []
        refine ⟨by simp, by simp; omega, fun x hx => ?_⟩
        rcases List.mem_cons.mp hx with e | m
        · rw [e]; simp
        · have := i3 x m
          simp at this ⊢
          omega
      · rw [if_neg h]
        obtain ⟨i1, i2, i3⟩ := ih (acc ++ [c])
        refine ⟨i1, by simp; omega, fun x hx => ?_⟩
        have := i3 x hx
        simp at this ⊢
        omega
  have e : (Txt.split z "\n").map TL.tl = TL.spl [10] 0 [] (TL.tl z) := TL.split_spl z "\n" (by decide) (TL.kind_ok (by decide +kernel))
  obtain ⟨k1, k2, k3⟩ := key (TL.tl z) []
  rw [← e] at k1 k2 k3
  refine ⟨fun h => k1 (by rw [h]; rfl), ?_, fun x hx => ?_⟩
  · rw [List.length_map] at k2
    have := tl_len z
    omega
  · have := k3 (TL.tl x) (List.mem_map_of_mem hx)
    have a := tl_len x
    have b := tl_len z
    rw [List.length_nil, Nat.zero_add] at this
    omega
/-- the house so far: a list p of new pairs -/
structure So (H H' : Hp) (p l : Addr) (ls : List Str) (i : Nat) (L : PL) : Prop where
  sm : Same H H'
  hp : H' p = some (.lst (refs L))
  hl : H' l = some (.lst (ls.map V.str))
  ps : ∀ q ∈ L, H' q.1 = some (.tup [.int q.2.1, .str q.2.2])
  len : L.length = i
  ne : l ≠ p
theorem So.same {H H' H2 : Hp} {p l : Addr} {ls : List Str} {i : Nat} {L : PL} (h : So H H' p l ls i L) (e : Same H' H2) : So H H2 p l ls i L :=
  ⟨h.sm.trans e, e _ _ h.hp, e _ _ h.hl, fun q hq => e _ _ (h.ps q hq), h.len, h.ne⟩
theorem ahead_err {h : List (Int × Str)} {e : Ft × Nat} {r s : Sum (List (Int × Str)) (Ft × Nat)} (a : r = ahead h s) (b : s = .inr e) : r = .inr e := by rw [a, b]; rfl
theorem sc_read_house : FnScope ["text", "lines", "rest", "house", "before", "at", "line", "number", "letters"] ["text"] (defScope s_read_house) := ⟨rfl, rfl, rfl, by decide +kernel, rfl, by decide +kernel, by decide +kernel⟩
theorem ok_read_house (T : Txt K mg ea) (c__read_line : ClX P w K mg base 3 "_read_line" (spReadLine K ea)) : ClX P w K mg base 4 "read_house" (spReadHouse ea) := by
  have nd := sc_read_house.nd
  refine clx_of T.d_read_house sc_read_house (fun vs H Q E h => ?_) (fun f cdv A outer s H vs Q E hr h => ?_)
  · obtain ⟨z, rfl, _⟩ := h
    rfl
  · obtain ⟨z, rfl, hz, q1, q2⟩ := h
    refine ⟨_, (pss_cons (ps_set (i := 1) nd rfl (.inl rfl) (pe_split (pv 0) pe_str))
      (pss_cons (ps_set (i := 2) nd rfl (.inl rfl) (pe_bm0 PySem.F.plainAttrs_list PySem.F.slot_list_pop PySem.F.type_list_pop mt_pop (pv 1)))
      (pss_cons (ps_set (i := 3) nd rfl (.inl rfl) (pe_lst pa_nil))
      (pss_cons (ps_set (i := 4) nd rfl (.inl rfl) (pe_un un_neg pe_int))
      (pss_cons (ps_for (passes_of rfl) rfl (pi_enum (by rfl) T.b_enumerate (pa_cons (pv 1) pa_nil)) (pg_tup rfl (pgs_cons (pg_name (i := 5) nd rfl (.inl rfl)) (pgs_cons (pg_name (i := 6) nd rfl (.inl rfl)) pgs_nil)))
        (pss_cons (ps_asg (pe_cx c__read_line hr (by decide) (fun σ => passAt (takes_of rfl rfl rfl rfl) σ) (by rfl) (pa_cons (pv 6) (pa_cons (pv 5) pa_nil))) (pg_tup rfl (pgs_cons (pg_name (i := 7) nd rfl (.inl rfl)) (pgs_cons (pg_name (i := 8) nd rfl (.inl rfl)) pgs_nil))))
          (pss_cons (ps_if (pt_cmpR op_le (pv 7) (pv 4) (nomark _))
            (pss_one (ps_raise rfl (takes_of rfl rfl rfl rfl) (pmk_at T.x_WrongOrder (ok_init T) hr (by decide) (by rfl) (pa_cons (pv 5) pa_nil))))
            pss_nil)
          (pss_cons (ps_if (pt_cmpR op_ge (pv 5) (pe_k T.m__MOST_TEXTS) (nomark _))
            (pss_one (ps_raise rfl (takes_of rfl rfl rfl rfl) (pmk_at T.x_TooMany (ok_init T) hr (by decide) (by rfl) (pa_cons (pv 5) pa_nil))))
            pss_nil)
          (pss_cons (ps_expr (pe_bm PySem.F.plainAttrs_list PySem.F.slot_list_append PySem.F.type_list_append mt_append (pv 3) (pa_cons (pe_tup (pa_cons (pv 7) (pa_cons (pv 8) pa_nil))) pa_nil)))
          (pss_one (ps_set (i := 4) nd rfl (.inl rfl) (pv 7))))))))
      (pss_cons (ps_if (pt_cmpR op_ne (pv 2) pe_str (nomark _))
        (pss_one (ps_raise rfl (takes_of rfl rfl rfl rfl) (pmk_at T.x_BadLine (ok_init T) hr (by decide) (by rfl) (pa_cons (pe_callB call_len_seq (by rfl) T.b_len PySem.boot_len (pa_cons (pv 1) pa_nil)) pa_nil))))
        pss_nil)
      (pss_one (ps_ret (pv 3))))))))), ?_⟩
    obtain ⟨f1, f2, f3⟩ := split_facts z
    -- the parts
    have parts : Txt.split z "\n" = (Txt.split z "\n").dropLast ++ [(Txt.split z "\n").getLastD ""] := by
      have e := List.dropLast_concat_getLast f1
      rw [List.getLastD_eq_getLast?, List.getLast?_eq_getLast f1]
      exact e.symm
    have eT : rdT z = rdH ((Txt.split z "\n").getLastD "") 0 (-1) (Txt.split z "\n").dropLast := rfl
    generalize (Txt.split z "\n").getLastD "" = rest at parts eT
    have f4 : (Txt.split z "\n").dropLast.length ≤ z.length := by rw [List.length_dropLast]; omega
    have f5 : ∀ x ∈ (Txt.split z "\n").dropLast, x.length ≤ z.length := fun x hx => f3 x (List.dropLast_subset _ hx)
    have hpop : ((Txt.split z "\n").map V.str)[((Txt.split z "\n").map V.str).length - 1]? = some (.str rest) := by
      rw [List.length_map, List.getElem?_map]
      have : (Txt.split z "\n")[(Txt.split z "\n").length - 1]? = some rest := by
        rw [parts, List.length_append]
        show (_ ++ [rest])[(Txt.split z "\n").dropLast.length + 1 - 1]? = _
        rw [Nat.add_sub_cancel, List.getElem?_append_right (Nat.le_refl _), Nat.sub_self]
        rfl
      rw [this]
      rfl
    have hdl : ((Txt.split z "\n").map V.str).dropLast = (Txt.split z "\n").dropLast.map V.str := by rw [List.map_dropLast]
    refine ⟨_, rfl, ⟨_, rfl⟩, z, _, rfl, rfl, rfl, (Nat.le_trans (by omega : z.length + 2 ≤ 100000) (by decide)), fun l nl => ?_⟩
    refine ⟨_, rfl, .inl ⟨rfl, _, SqL.of upd_same⟩, l, _, _, rfl, rfl, upd_same, hpop, ?_⟩
    rw [hdl]
    generalize (Txt.split z "\n").dropLast = ls at f4 f5 eT
    have sm1 : Same H (upd (upd H l (.lst ((Txt.split z "\n").map V.str))) l (.lst (ls.map V.str))) := same_mut (same_new nl) nl
    refine ⟨Nat.zero_le _, fun p np => ?_⟩
    have s1 : Same H _ := sm1.trans (same_new (o := .lst []) np)
    have hl1 : (upd (upd (upd H l (.lst ((Txt.split z "\n").map V.str))) l (.lst (ls.map V.str))) p (.lst [])) l = some (.lst (ls.map V.str)) := same_new np _ _ upd_same
    have hpn : H p = none := sm1.free np
    have lp : l ≠ p := ne_of_none (H := upd (upd H l (.lst ((Txt.split z "\n").map V.str))) l (.lst (ls.map V.str))) upd_same np
    refine ⟨1, rfl, _, rfl, l, _, rfl, .inl (.inl hl1), ?_⟩
    refine for_it (walk_enum (K := K) (a := l) (xs := ls.map V.str)) (fun i σ H' => ∃ (L : PL) (b : Int) (y5 y6 y7 y8 : Option V), σ = [some (.str z), some (.ref l), some (.str rest), some (.ref p), some (.int b), y5, y6, y7, y8] ∧ So H H' p l ls i L ∧ rdT z = ahead (L.map (·.2)) (rdH rest i b (ls.drop i)))
      ⟨[], -1, none, none, none, none, rfl, ⟨s1, upd_same, hl1, (fun q hq => nomatch hq), rfl, lp⟩, by rw [eT, List.drop_zero]; show _ = ahead [] _; cases rdH rest 0 (-1) ls <;> rfl⟩ (fun i σ H' _ hW => ?_) (fun i x σ H1 H2 hi hW hY => ?_) (fun σ H' hW => ?_)
    · obtain ⟨L, b, y5, y6, y7, y8, rfl, so, _⟩ := hW
      exact .inl (.inl so.hl)
    · obtain ⟨L, b, y5, y6, y7, y8, rfl, so, er⟩ := hW
      obtain ⟨Tn, x1, x2, rfl, nT, rfl, f1, f2⟩ := hY
      cases f1
      have f2 : (ls.map V.str)[i]? = some x2 := f2
      rw [List.getElem?_map] at f2
      cases ez : ls[i]? with
      | none => rw [ez] at f2; cases f2
      | some ln =>
        rw [ez] at f2
        cases f2
        have lm : ln ∈ ls := List.mem_of_getElem? ez
        have so2 := so.same (same_new (o := .tup [.int (i : Int), .str ln]) nT)
        rw [drop_at ez] at er
        have il : i < ls.length := (List.getElem?_eq_some_iff.mp ez).1
        have sk : Small (i : Int) := small_of (by omega) (by omega)
        refine ⟨Tn, _, rfl, .inl (.inl upd_same), rfl, _, _, rfl, _, _, rfl, rfl, ?_⟩
        refine ⟨_, rfl, _, rfl, ln, (i : Int), rfl, (by have := f5 ln lm; omega), sk, fun n x hx t H3 s3 ht => ?_, fun hx => ?_, fun hx => ?_⟩
        · have so3 := so2.same s3
          refine ⟨t, _, rfl, .inl (.inl ht), rfl, _, _, rfl, _, _, rfl, rfl, ?_⟩
          refine ⟨_, rfl, _, rfl, _, _, rfl, rfl, _, rfl, ite2 (fun e => ?_) (fun e => ?_)⟩
          · have c1 := of_decide_eq_true e
            have : rdT z = .inr (.order, i) := ahead_err er (by rw [rdH, hx]; show (if (n : Int) ≤ b then _ else _) = _; rw [if_pos c1])
            exact ⟨_, rfl, mk_at T.x_WrongOrder.o T.x_WrongOrder.no sk ((q2 _ _ this).same so3.sm)⟩
          · have c1 : ¬ (n : Int) ≤ b := fun y => e (decide_eq_true y)
            refine ⟨_, rfl, _, _, rfl, rfl, _, rfl, ite2 (fun e2 => ?_) (fun e2 => ?_)⟩
            · have c2 := of_decide_eq_true e2
              have : rdT z = .inr (.many, i) := ahead_err er (by rw [rdH, hx]; show (if (n : Int) ≤ b then _ else if 8 ≤ i then _ else _) = _; rw [if_neg c1, if_pos (by omega)])
              exact ⟨_, rfl, mk_at T.x_TooMany.o T.x_TooMany.no sk ((q2 _ _ this).same so3.sm)⟩
            · have c2 : ¬ 8 ≤ i := fun y => e2 (decide_eq_true (by omega))
              refine ⟨_, rfl, .inl ⟨rfl, _, SqL.of so3.hp⟩, _, rfl, _, rfl, (by show 2 ≤ sizeLine; decide), fun u nu => ?_⟩
              have so4 := so3.same (same_new (o := .tup [.int (n : Int), .str x]) nu)
              refine ⟨p, _, _, rfl, rfl, so4.hp, ?_, ?_⟩
              · rw [refs_len, so4.len]; exact Nat.lt_of_lt_of_le (by omega : i < 100000) (by decide)
              refine ⟨_, rfl, L ++ [(u, (n : Int), x)], _, _, _, _, _, rfl, ⟨same_mut so4.sm hpn, ?_, ?_, fun q hq => ?_, ?_, so4.ne⟩, ?_⟩
              · rw [upd_same]; unfold refs; rw [List.map_append]; rfl
              · rw [upd_ne so4.ne]
                exact so4.hl
              · have qp : q.1 ≠ p := fun y => by
                  rcases List.mem_append.mp hq with m | m
                  · have a1 := so4.ps q m
                    rw [y, so4.hp] at a1
                    cases a1
                  · rw [List.mem_singleton.mp m] at y
                    have a1 := so4.hp
                    rw [← y] at a1
                    rw [show (u, (n : Int), x).1 = u from rfl, upd_same] at a1
                    cases a1
                rw [upd_ne qp]
                rcases List.mem_append.mp hq with m | m
                · exact so4.ps q m
                · rw [List.mem_singleton.mp m]; exact upd_same
              · rw [List.length_append, so4.len]; rfl
              · rw [er, rdH_step hx c1 c2, List.map_append]
                rfl
        · have : rdT z = .inr (.line, i) := ahead_err er (by rw [rdH, hx])
          exact (q2 _ _ this).same so2.sm
        · have : rdT z = .inr (.text, i) := ahead_err er (by rw [rdH, hx])
          exact (q2 _ _ this).same so2.sm
    · obtain ⟨L, b, y5, y6, y7, y8, rfl, so, er⟩ := hW
      rw [List.drop_of_length_le (by rw [List.length_map]; exact Nat.le_refl _)] at er
      rw [List.length_map] at er
      refine ⟨_, rfl, rfl, _, rfl, ite2 (fun e => ?_) (fun e => ?_)⟩
      · have c : rest ≠ "" := fun y => by rw [y] at e; exact absurd (show (!decide (V.str ("" : Str) = V.str "")) = true from e) (by decide)
        have : rdT z = .inr (.line, ls.length) := ahead_err er (by rw [rdH, if_neg c])
        refine ⟨_, rfl, l, _, rfl, .inl (.inl (.inl so.hl)), ?_⟩
        rw [List.length_map]
        exact mk_at T.x_BadLine.o T.x_BadLine.no (small_of (by omega) (by omega)) ((q2 _ _ this).same so.sm)
      · have c : rest = "" := Decidable.byContradiction fun y => e (by
          have : ¬ V.str rest = V.str "" := fun x => y (by injection x)
          show (!decide (V.str rest = V.str "")) = true
          rw [decide_eq_false this]; rfl)
        have : rdT z = .inl (L.map (·.2)) := by
          rw [er, rdH, if_pos c]
          show Sum.inl (L.map (·.2) ++ []) = _
          rw [List.append_nil]
        exact ⟨_, rfl, q1 _ this p L H' so.sm hpn so.hp so.ps rfl⟩
/-- a line's signs, without and with its newline -/
def lineL (q : Int × Str) : List Nat := TL.numL q.1.toNat ++ (58 :: TL.tl q.2)
def lnL (q : Int × Str) : List Nat := lineL q ++ [10]
def wrT (h : List (Int × Str)) : Str := Txt.join "" (h.map fun q => SX.S (lnL q))
theorem joinL_nil : ∀ l : List (List Nat), TL.joinL [] l = l.flatten
  | [] => rfl
  | [p] => by simp [TL.joinL]
  | p :: q :: r => by
    show p ++ ([] ++ TL.joinL [] (q :: r)) = _
    rw [List.nil_append, joinL_nil (q :: r)]
    rfl
theorem tl_wr (h : List (Int × Str)) : TL.tl (wrT h) = (h.map lnL).flatten := by
  unfold wrT
  rw [TL.join_eq, TL.tl_join]
  show TL.joinL [] _ = _
  rw [joinL_nil, List.map_map]
  rfl
theorem num_str {n : Int} (h : 0 ≤ n) : TL.tl (Str.ofString (toString n)) = TL.numL n.toNat := by
  obtain ⟨m, rfl⟩ : ∃ m : Nat, n = m := ⟨n.toNat, by omega⟩
  rw [TL.tl_num, Int.toNat_natCast]
theorem ln_f {n : Int} {z : Str} (h : 0 ≤ n) : Str.empty ++ (toString n : Str) ++ (":" : Str) ++ z ++ ("\n" : Str) = SX.S (lnL (n, z)) := by
  refine TL.ext_tl ?_
  rw [TL.tl_append, TL.tl_append, TL.tl_append, TL.tl_append]
  show [] ++ TL.tl (Str.ofString (toString n)) ++ [58] ++ TL.tl z ++ [10] = TL.numL n.toNat ++ (58 :: TL.tl z) ++ [10]
  rw [num_str h, List.nil_append, List.append_assoc (TL.numL n.toNat)]
  rfl
theorem ln_a {n : Int} {z : Str} (h : 0 ≤ n) : (toString n : Str) ++ (":" : Str) ++ z ++ ("\n" : Str) = SX.S (lnL (n, z)) := by
  refine TL.ext_tl ?_
  rw [TL.tl_append, TL.tl_append, TL.tl_append]
  show TL.tl (Str.ofString (toString n)) ++ [58] ++ TL.tl z ++ [10] = TL.numL n.toNat ++ (58 :: TL.tl z) ++ [10]
  rw [num_str h, List.append_assoc (TL.numL n.toNat)]
  rfl
theorem numL_short {n : Nat} (h : n ≤ 99) : numIn (TL.numL n) = some n ∧ (TL.numL n).length ≤ 2 := by
  by_cases c : n < 10
  · rw [TL.numL_lt c]
    exact ⟨numIn_one.mpr ⟨dg_iff.mpr (by omega), by omega⟩, by simp⟩
  · rw [TL.numL_step (by omega), TL.numL_lt (by omega)]
    exact ⟨numIn_two.mpr ⟨dg_iff.mpr (by omega), dg_iff.mpr (by omega), by omega, by omega⟩, by simp⟩
theorem lnL_len {m : Nat} {h : List (Int × Str)} (a : IsHs m h) {q : Int × Str} (hq : q ∈ h) : (lnL q).length ≤ m + 4 := by
  have n := a.num q hq
  have t := (a.txt q hq).2
  have b := (numL_short (n := q.1.toNat) (by omega)).2
  have e := tl_len q.2
  unfold lnL lineL
  simp only [List.length_append, List.length_cons, List.length_nil]
  omega
theorem sum_le {α : Type} (f : α → Nat) (c : Nat) : ∀ l : List α, (∀ x ∈ l, f x ≤ c) → (l.map f).sum ≤ l.length * c
  | [], _ => Nat.zero_le _
  | x :: r, h => by
    have a := h x (List.mem_cons_self ..)
    have b := sum_le f c r fun y m => h y (List.mem_cons_of_mem _ m)
    rw [List.map_cons, List.sum_cons, List.length_cons, Nat.add_mul, Nat.one_mul]
    omega
theorem wr_len {h : List (Int × Str)} (a : IsHs 40 h) (l : h.length ≤ 8) : (wrT h).length ≤ 352 := by
  rw [tl_len, tl_wr, List.length_flatten, List.map_map]
  have := sum_le (List.length ∘ lnL) 44 h fun q hq => lnL_len a hq
  omega
def spWrite (K : PySem.W.Frag) : Sp := fun vs H Q _ => ∃ (a : Addr) (L : PL), vs = [.ref a] ∧ HsAt K H a L ∧ L.length ≤ 8 ∧ IsHs 40 (L.map (·.2)) ∧ ∀ H', Same H H' → Q (.str (wrT (L.map (·.2)))) H'
theorem refs_at {L : PL} {i : Nat} {x : V} (h : (refs L)[i]? = some x) : ∃ t, L[i]? = some t ∧ t ∈ L ∧ x = .ref t.1 := refs_get h
/-- the lines of the pairs, joined: what a join of them asks -/
theorem wr_join {L : PL} (a : IsHs 40 (L.map (·.2))) (l : L.length ≤ 8) : ((L.map fun q => SX.S (lnL q.2)).map (·.length)).sum + (L.map fun q => SX.S (lnL q.2)).length * ("" : Str).length ≤ 16777216 ∧ Txt.join "" (L.map fun q => SX.S (lnL q.2)) = wrT (L.map (·.2)) := by
  refine ⟨?_, ?_⟩
  · rw [List.map_map]
    have := sum_le ((fun x : Str => x.length) ∘ fun q : Addr × Int × Str => SX.S (lnL q.2)) 44 L fun q hq => by
      show (SX.S (lnL q.2)).length ≤ 44
      rw [SX.S_len]
      exact lnL_len a (List.mem_map_of_mem hq)
    show _ + _ * 0 ≤ _
    omega
  · unfold wrT
    rw [List.map_map]
    rfl
theorem sc_write_house : FnScope ["house", "number", "text"] ["house"] (defScope s_write_house) := ⟨rfl, rfl, rfl, by decide +kernel, rfl, by decide +kernel, by decide +kernel⟩
theorem ok_write_house (T : Txt K mg ea) : Cl P w K mg base 1 "write_house" (spWrite K) := by
  have nd := sc_write_house.nd
  refine cl_of T.d_write_house sc_write_house (fun vs H Q E h => ?_) (fun f cdv A outer s H vs Q E hr h => ?_)
  · obtain ⟨a, L, rfl, _⟩ := h
    rfl
  · obtain ⟨a, L, rfl, hA, hl, hh, q⟩ := h
    refine ⟨_, (pss_one (ps_ret (pe_join pe_str (pe_lc (own := [("number", 1), ("text", 2)]) (g := (gTup K 2 (gCons (gName 1) (gCons (gName 2) gNil)))) rfl nd (pi_list (pv 0)) (blkOk_by (own := [("number", 1), ("text", 2)]) (N := ["house", "number", "text"]) (sc := defScope s_write_house) (by decide +kernel)) (fun _ _ _ _ _ => (pg_tup rfl (pgs_cons (pg_name (i := 1) nd rfl (.inl rfl)) (pgs_cons (pg_name (i := 2) nd rfl (.inl rfl)) pgs_nil)))) (fun _ _ _ _ _ => pts_nil) (fun _ _ _ _ _ => (pe_joined (PJ.cons (pe_fmt (pv 1)) (PJ.cons pe_str (PJ.cons (pe_fmt (pv 2)) (PJ.cons pe_str PJ.nil)))))))))), ?_⟩
    refine ⟨⟨_, rfl⟩, _, rfl, a, rfl, ⟨_, hA.1⟩, fun D hD => ?_⟩
    refine lc_w (te := fun σ H Q => tJs [tFmt (tVar 1), tC (.str ":"), tFmt (tVar 2), tC (.str "\n")] Str.empty σ H fun out H1 => Q (.str out) H1) (walk_list (xs := refs L)) hD (by rw [refs_len]; omega) (fun H' e => e.seq hA.1) (fun i acc _ => acc = ((L.take i).map fun q => SX.S (lnL q.2)).map V.str) (fun _ _ => rfl) (fun _ _ _ _ _ _ _ r => r) (fun i H x H' y => by rw [y.1]; exact Same.refl _)
      (fun i x acc H1 H2 Qn Qf hi sm y r at_ kn kf => ?_) (fun acc H1 sm at_ _ r => ?_)
    · obtain ⟨rfl, hx⟩ := y
      obtain ⟨t, ht, tm, rfl⟩ := refs_at hx
      have hn := hh.num t.2 (List.mem_map_of_mem tm)
      have hz := (hh.txt t.2 (List.mem_map_of_mem tm)).2
      have ll := lnL_len hh (List.mem_map_of_mem tm)
      refine ⟨_, _, rfl, same_tup sm (hA.2 t tm), rfl, _, _, rfl, _, _, rfl, rfl, rfl, ?_⟩
      have lg : t.2.1.natAbs.log2 < 1920 := by
        obtain ⟨m, em⟩ : ∃ m : Nat, t.2.1 = m := ⟨t.2.1.toNat, by omega⟩
        rw [em]
        exact log_small (by omega)
      have full := ln_f (z := t.2.2) hn.1
      have lfull : (Str.empty ++ (toString t.2.1 : Str) ++ (":" : Str) ++ t.2.2 ++ ("\n" : Str)).length ≤ 44 := by rw [full, SX.S_len]; exact ll
      rw [len_app, len_app, len_app, len_app] at lfull
      have le : ∀ {n : Nat}, n ≤ 44 → n ≤ sizeLine := fun h => Nat.le_trans h (by decide)
      refine ⟨_, rfl, .inr ⟨_, rfl, lg, _, rfl, le (by rw [len_app]; omega), _, rfl, le (by rw [len_app, len_app]; omega), _, rfl, .inl ⟨_, rfl, le (by omega), _, rfl, le (by rw [len_app, len_app, len_app]; omega), _, rfl, le (by rw [len_app, len_app, len_app, len_app]; omega), kn _ _ (Same.refl _) ?_⟩⟩⟩
      rw [r, List.take_add_one, ht, List.map_append, List.map_append, full]
      rfl
    · rw [List.take_of_length_le (by rw [refs_len]; exact Nat.le_refl _)] at r
      obtain ⟨j1, j2⟩ := wr_join hh hl
      refine ⟨"", D, L.map fun q => SX.S (lnL q.2), rfl, rfl, .inl (.inl (.inl (by rw [at_, r]))), j1, ?_⟩
      rw [j2]
      exact q H1 sm
/-- read back -/
theorem lineR_back {n : Nat} {z : Str} (hn : n ≤ 99) (hz : z.length ≤ 40) : lineR (SX.S (lineL ((n : Int), z))) = .inl (n, z) := by
  have e : SX.S (lineL ((n : Int), z)) = SX.S (TL.numL n) ++ (":" : Str) ++ z := by
    refine TL.ext_tl ?_
    rw [TL.tl_append, TL.tl_append]
    show TL.numL (n : Int).toNat ++ (58 :: TL.tl z) = TL.numL n ++ [58] ++ TL.tl z
    rw [Int.toNat_natCast, List.append_assoc]
    rfl
  have p := TL.partition_app (y := ":") (s := 58) (S := []) (by rfl) (a := SX.S (TL.numL n)) (b := z) (TL.numL_free (by omega))
  rw [← e] at p
  have nl := numL_short hn
  rcases col_cases (SX.S (lineL ((n : Int), z))) with ⟨_, e2, _⟩ | ⟨i, a, b, e1, e2, _⟩
  · rw [p] at e2
    have := congrArg (fun x : Str × Str × Str => x.2.1) e2
    exact absurd (show (":" : Str) = Str.empty from this) (by decide)
  · rw [p] at e2
    have ea : SX.S (TL.numL n) = a := congrArg (fun x : Str × Str × Str => x.1) e2
    have eb : z = b := congrArg (fun x : Str × Str × Str => x.2.2) e2
    subst ea eb
    unfold lineR
    rw [e1]
    show (match numIn (TL.numL n) with | none => _ | some m => _) = _
    rw [nl.1]
    show (if 40 < z.length then _ else _) = _
    rw [if_neg (by omega)]
theorem rd_back : ∀ (h : List (Int × Str)) (k : Nat) (b : Int), k + h.length ≤ 8 → (∀ q ∈ h, b < q.1) → IsHs 40 h → rdH "" k b (h.map fun q => SX.S (lineL q)) = .inl h
  | [], k, b, _, _, _ => by rw [List.map_nil, rdH, if_pos rfl]
  | q :: r, k, b, hk, hb, a => by
    have n := a.num q (List.mem_cons_self ..)
    have t := (a.txt q (List.mem_cons_self ..)).2
    have asc := a.asc
    rw [List.map_cons, List.pairwise_cons] at asc
    obtain ⟨m, z⟩ := q
    obtain ⟨j, rfl⟩ : ∃ j : Nat, m = j := ⟨m.toNat, by have := n.1; show m = _; omega⟩
    have n2 : j ≤ 99 := by have := n.2; omega
    have b1 := hb _ (List.mem_cons_self ..)
    have ih := rd_back r (k + 1) j (by rw [List.length_cons] at hk; omega) (fun x hx => asc.1 x.1 (List.mem_map_of_mem hx)) ⟨asc.2, fun x hx => a.num x (List.mem_cons_of_mem _ hx), fun x hx => a.txt x (List.mem_cons_of_mem _ hx)⟩
    rw [List.map_cons, rdH, lineR_back n2 t]
    show (if (j : Int) ≤ b then _ else if 8 ≤ k then _ else _) = _
    rw [if_neg (by have : b < (j : Int) := b1; omega), if_neg (by rw [List.length_cons] at hk; omega), ih]
theorem rdT_wr {h : List (Int × Str)} (a : IsHs 40 h) (l : h.length ≤ 8) : rdT (wrT h) = .inl h := by
  have jl : ∀ g : List (Int × Str), TL.joinL [10] (g.map lineL ++ [[]]) = (g.map lnL).flatten := by
    intro g
    induction g with
    | nil => rfl
    | cons q r ih =>
      have ne : r.map lineL ++ [[]] ≠ [] := by simp
      obtain ⟨x, y, exy⟩ := List.exists_cons_of_ne_nil ne
      rw [List.map_cons, List.cons_append, exy]
      show lineL q ++ ([10] ++ TL.joinL [10] (x :: y)) = _
      rw [← exy, ih, List.map_cons, List.flatten_cons]
      unfold lnL
      rw [List.append_assoc]
  have free : ∀ p ∈ h.map (fun q => SX.S (lineL q)) ++ [("" : Str)], 10 ∉ TL.tl p := by
    intro p hp m
    rcases List.mem_append.mp hp with c | c
    · obtain ⟨q, hq, rfl⟩ := List.mem_map.mp c
      have m2 : 10 ∈ TL.numL q.1.toNat ++ (58 :: TL.tl q.2) := m
      rcases List.mem_append.mp m2 with c2 | c2
      · exact TL.numL_free (by omega) c2
      · rcases List.mem_cons.mp c2 with c3 | c3
        · omega
        · exact absurd (List.all_eq_true.mp (a.txt q hq).1 10 c3) (by decide)
    · rw [List.mem_singleton.mp c] at m
      cases m
  have e : wrT h = Txt.join "\n" (h.map (fun q => SX.S (lineL q)) ++ [("" : Str)]) := by
    refine TL.ext_tl ?_
    rw [tl_wr, TL.join_eq, TL.tl_join, List.map_append, List.map_map]
    show _ = TL.joinL [10] (h.map lineL ++ [[]])
    rw [jl]
  have sp : Txt.split (wrT h) "\n" = h.map (fun q => SX.S (lineL q)) ++ [("" : Str)] := by
    rw [e]
    exact TL.split_join (s := 10) (S := []) (by rfl) (by decide +kernel) (by simp) free
  unfold rdT
  rw [sp, List.dropLast_concat]
  have g : (h.map (fun q => SX.S (lineL q)) ++ [("" : Str)]).getLastD "" = "" := by simp
  rw [g]
  exact rd_back h 0 (-1) (by omega) (fun q hq => by have := (a.num q hq).1; omega) a
end

end SH
set_option Elab.async false
set_option linter.all false
set_option maxRecDepth 100000
set_option maxHeartbeats 4000000
namespace SH
open PySem PySem.Spec PyProof.Rows L2
section
variable {P : Program} {w : World} {K : PySem.W.Frag} {mg : Str → Option Value} {base : Heap} {ea : Ea}
def tagOf : Ft → Str
  | .line => "line"
  | .text => "text"
  | .order => "order"
  | .many => "many"
/-- what is told of a text that is read -/
def toldOf : Sum (List (Int × Str)) (Ft × Nat) → Str × PyData
  | .inl h => ("house", dH h)
  | .inr (t, k) => (tagOf t, .int (k : Int))
def Due (K : PySem.W.Frag) (H' : Hp) (v : V) (p : Str × PyData) : Prop := ∃ (t : Addr) (x : V), v = .ref t ∧ H' t = some (.tup [.str p.1, x]) ∧ Dp K H' x p.2
theorem Due.of {K : PySem.W.Frag} {H' : Hp} {v : V} {p q : Str × PyData} (e : p = q) (h : Due K H' v p) : Due K H' v q := e ▸ h
def spTold (K : PySem.W.Frag) : Sp := fun vs H Q _ => ∃ z : Str, vs = [.str z] ∧ z.length ≤ 50000 ∧ ∀ (v : V) (H' : Hp), Same H H' → Due K H' v (toldOf (rdT z)) → Q v H'
theorem due_int {H' : Hp} {t : Addr} {s : Str} {n : Int} : Due K (upd H' t (.tup [.str s, .int n])) (.ref t) (s, .int n) := ⟨t, .int n, rfl, upd_same, .int n⟩
theorem due_house {H' : Hp} {l t : Addr} {L : PL} (hA : HsAt K H' l L) (nt : H' t = none) : Due K (upd H' t (.tup [.str "house", .ref l])) (.ref t) ("house", dH (L.map (·.2))) :=
  ⟨t, .ref l, rfl, upd_same, dp_house (hA.same (same_new nt))⟩
theorem sc__law_told : FnScope ["text", "e"] ["text"] (defScope s__law_told) := ⟨rfl, rfl, rfl, by decide +kernel, rfl, by decide +kernel, by decide +kernel⟩
theorem ok__law_told (T : Txt K mg ea) (c_read_house : ClX P w K mg base 4 "read_house" (spReadHouse ea)) : Cl P w K mg base 5 "_law_told" (spTold K) := by
  have nd := sc__law_told.nd
  refine cl_of T.d__law_told sc__law_told (fun vs H Q E h => ?_) (fun f cdv A outer s H vs Q E hr h => ?_)
  · obtain ⟨z, rfl, _⟩ := h
    rfl
  · obtain ⟨z, rfl, hz, q⟩ := h
    refine ⟨_, (pss_one (ps_try_hds rfl rfl takes0 (fun W pn xe tk _ => (pss_one (ps_ret (pe_tup (pa_cons pe_str (pa_cons (pe_cx c_read_house hr (by decide) (fun σ => passAt tk σ) (by rfl) (pa_cons (pv 0) pa_nil)) pa_nil))))))
        (HdsN.named ⟨rfl, by decide, Or.inl T.x_BadLine.g⟩ nd (i := 1) rfl rfl (fun a o c d l hz hf => (pss_one (ps_ret (pe_tup (pa_cons pe_str (pa_cons (pe_xf T.x_BadLine.f T.x_BadLine.no hz hf (pv 1)) pa_nil))))))
        (HdsN.named ⟨rfl, by decide, Or.inl T.x_BadText.g⟩ nd (i := 1) rfl rfl (fun a o c d l hz hf => (pss_one (ps_ret (pe_tup (pa_cons pe_str (pa_cons (pe_xf T.x_BadText.f T.x_BadText.no hz hf (pv 1)) pa_nil))))))
        (HdsN.named ⟨rfl, by decide, Or.inl T.x_WrongOrder.g⟩ nd (i := 1) rfl rfl (fun a o c d l hz hf => (pss_one (ps_ret (pe_tup (pa_cons pe_str (pa_cons (pe_xf T.x_WrongOrder.f T.x_WrongOrder.no hz hf (pv 1)) pa_nil))))))
        (HdsN.named ⟨rfl, by decide, Or.inl T.x_TooMany.g⟩ nd (i := 1) rfl rfl (fun a o c d l hz hf => (pss_one (ps_ret (pe_tup (pa_cons pe_str (pa_cons (pe_xf T.x_TooMany.f T.x_TooMany.no hz hf (pv 1)) pa_nil))))))
        (HdsN.cons ⟨rfl, by decide, Or.inl T.x_HouseError.g⟩ (fun a o c d l hz hf => (pss_one (ps_ret (pe_tup (pa_cons pe_str (pa_cons pe_int pa_nil))))))
        HdsN.nil))))))), ?_⟩
    have sz : 2 ≤ sizeLine := by decide
    refine ⟨_, rfl, z, rfl, hz, fun h eh => ?_, fun t k et => ?_⟩
    · intro p L H2 s2 np at_ ps hL
      refine ⟨sz, fun t nt => q _ _ (s2.trans (same_new nt)) (Due.of ?_ (due_house (L := L) ⟨.inl (.inl at_), fun x hx => .inl (.inl (ps x hx))⟩ nt))⟩
      rw [eh, hL]
      rfl
    · intro d H2 s2 nd2 e2
      cases t with
      | line =>
        refine wHds_take T.e_BadLine_BadLine fun a0 na => ?_
        exact ⟨_, rfl, rfl, rfl, d, _, _, rfl, e2, rfl, sz, fun t nt => q _ _ (s2.trans (same_new nt)) (Due.of (by rw [et]; rfl) due_int)⟩
      | text =>
        refine wHds_skip T.e_BadText_BadLine (wHds_take T.e_BadText_BadText fun a0 na => ?_)
        exact ⟨_, rfl, rfl, rfl, d, _, _, rfl, e2, rfl, sz, fun t nt => q _ _ (s2.trans (same_new nt)) (Due.of (by rw [et]; rfl) due_int)⟩
      | order =>
        refine wHds_skip T.e_WrongOrder_BadLine (wHds_skip T.e_WrongOrder_BadText (wHds_take T.e_WrongOrder_WrongOrder fun a0 na => ?_))
        exact ⟨_, rfl, rfl, rfl, d, _, _, rfl, e2, rfl, sz, fun t nt => q _ _ (s2.trans (same_new nt)) (Due.of (by rw [et]; rfl) due_int)⟩
      | many =>
        refine wHds_skip T.e_TooMany_BadLine (wHds_skip T.e_TooMany_BadText (wHds_skip T.e_TooMany_WrongOrder (wHds_take T.e_TooMany_TooMany fun a0 na => ?_)))
        exact ⟨_, rfl, rfl, rfl, d, _, _, rfl, e2, rfl, sz, fun t nt => q _ _ (s2.trans (same_new nt)) (Due.of (by rw [et]; rfl) due_int)⟩
theorem cut_take (z : Str) (k : Nat) : TL.tl (cutS z none (some (k : Int))) = (TL.tl z).take k := by
  show (z.cps.toList.drop (HT.sIx z.length 0 none)).take (HT.sIx z.length z.length (some (k : Int)) - HT.sIx z.length 0 none) = _
  rw [HT.sIx_none, HT.sIx_nat, List.drop_zero, Nat.sub_zero]
  have e : z.cps.toList.length = z.length := rfl
  rcases Nat.le_total k z.length with h | h
  · rw [Nat.min_eq_left h]
  · rw [Nat.min_eq_right h]
    show z.cps.toList.take z.length = z.cps.toList.take k
    rw [List.take_of_length_le (by omega), List.take_of_length_le (by omega)]
theorem cut_drop (z : Str) (k : Nat) : TL.tl (cutS z (some (k : Int)) none) = (TL.tl z).drop k := by
  show (z.cps.toList.drop (HT.sIx z.length 0 (some (k : Int)))).take (HT.sIx z.length z.length none - HT.sIx z.length 0 (some (k : Int))) = _
  rw [HT.sIx_none, HT.sIx_nat]
  have e : z.cps.toList.length = z.length := rfl
  rcases Nat.le_total k z.length with h | h
  · rw [Nat.min_eq_left h, List.take_of_length_le (by rw [List.length_drop]; omega)]
  · rw [Nat.min_eq_right h, Nat.sub_self, List.take_zero]
    exact (List.drop_eq_nil_of_le (by show z.cps.toList.length ≤ k; omega)).symm
def lastN (L : PL) : Int := match L.getLast? with
  | some t => t.2.1
  | none => -1
theorem lastN_snoc (L : PL) (t : Addr × Int × Str) : lastN (L ++ [t]) = t.2.1 := by
  unfold lastN
  rw [List.getLast?_append]
  rfl
theorem sc__law_read : FnScope ["text", "lines", "house", "k", "at", "number"] ["text"] (defScope s__law_read) := ⟨rfl, rfl, rfl, by decide +kernel, rfl, by decide +kernel, by decide +kernel⟩
theorem ok__law_read (T : Txt K mg ea) (c__law_number : Cl P w K mg base 1 "_law_number" spNumber) : Cl P w K mg base 2 "_law_read" (spTold K) := by
  have nd := sc__law_read.nd
  refine cl_of T.d__law_read sc__law_read (fun vs H Q E h => ?_) (fun f cdv A outer s H vs Q E hr h => ?_)
  · obtain ⟨z, rfl, _⟩ := h
    rfl
  · obtain ⟨z, rfl, hz, q⟩ := h
    refine ⟨_, (pss_cons (ps_set (i := 1) nd rfl (.inl rfl) (pe_split (pv 0) pe_str))
      (pss_cons (ps_set (i := 2) nd rfl (.inl rfl) (pe_lst pa_nil))
      (pss_cons (ps_for PassesOwn.never rfl (pi_range1 rfl T.b_range (pa_cons (pe_op op_sub (pe_callB call_len_seq (by rfl) T.b_len PySem.boot_len (pa_cons (pv 1) pa_nil)) pe_int) pa_nil)) (pg_name (i := 3) nd rfl (.inl rfl))
        (pss_cons (ps_set (i := 4) nd rfl (.inl rfl) (pe_m1 PySem.F.slot_str_find PySem.F.type_str_find mt_find (pe_ix (ixl (K := K)) (pv 1) (pv 3) (fun _ _ => rfl)) pe_str))
          (pss_cons (ps_set (i := 5) nd rfl (.inl rfl) (C8.pe_c c__law_number hr (by decide) (by rfl) (pa_cons (pe_slice sl_str (pe_ix (ixl (K := K)) (pv 1) (pv 3) (fun _ _ => rfl)) po_none (po_some (pe_callB (call_max2 rfl) (by rfl) T.b_max (by decide +kernel) (pa_cons pe_int (pa_cons (pv 4) pa_nil))))) pa_nil)))
          (pss_cons (ps_if (pt_cmpR op_isN (pv 5) pe_non (nomark _))
            (pss_one (ps_ret (pe_tup (pa_cons pe_str (pa_cons (pv 3) pa_nil)))))
            pss_nil)
          (pss_cons (ps_if (pt_cmpR op_gt (pe_op op_sub (pe_op op_sub (pe_callB call_len_str (by rfl) T.b_len PySem.boot_len (pa_cons (pe_ix (ixl (K := K)) (pv 1) (pv 3) (fun _ _ => rfl)) pa_nil)) (pv 4)) pe_int) pe_int (nomark _))
            (pss_one (ps_ret (pe_tup (pa_cons pe_str (pa_cons (pv 3) pa_nil)))))
            pss_nil)
          (C8.pss_cut (ps_if (PW.pt (pw_and (pt_cmpR op_gt (pe_callB call_len_seq (by rfl) T.b_len PySem.boot_len (pa_cons (pv 2) pa_nil)) pe_int (nomark _)) (pw_and1 (pt_cmpR op_le (pv 5) (pe_ix (ixt (K := K)) (pe_ix (ixl (K := K)) (pv 2) (pe_un un_neg pe_int) (fun _ _ => rfl)) pe_int (fun _ _ => rfl)) (nomark _)))))
            (pss_one (ps_ret (pe_tup (pa_cons pe_str (pa_cons (pv 3) pa_nil)))))
            pss_nil)
          (pss_cons (ps_if (pt_cmpR op_eq (pv 3) pe_int (nomark _))
            (pss_one (ps_ret (pe_tup (pa_cons pe_str (pa_cons (pv 3) pa_nil)))))
            pss_nil)
          (pss_one (ps_expr (pe_bm PySem.F.plainAttrs_list PySem.F.slot_list_append PySem.F.type_list_append mt_append (pv 2) (pa_cons (pe_tup (pa_cons (pv 5) (pa_cons (pe_slice sl_str (pe_ix (ixl (K := K)) (pv 1) (pv 3) (fun _ _ => rfl)) (po_some (pe_op op_add (pv 4) pe_int)) po_none) pa_nil))) pa_nil)))))))))))
      (pss_cons (ps_if (pt_cmpR op_ne (pe_ix (ixl (K := K)) (pv 1) (pe_un un_neg pe_int) (fun _ _ => rfl)) pe_str (nomark _))
        (pss_one (ps_ret (pe_tup (pa_cons pe_str (pa_cons (pe_op op_sub (pe_callB call_len_seq (by rfl) T.b_len PySem.boot_len (pa_cons (pv 1) pa_nil)) pe_int) pa_nil)))))
        pss_nil)
      (pss_one (ps_ret (pe_tup (pa_cons pe_str (pa_cons (pv 2) pa_nil))))))))), ?_⟩
    have sz : 2 ≤ sizeLine := by decide
    obtain ⟨f1, f2, f3⟩ := split_facts z
    have parts : Txt.split z "\n" = (Txt.split z "\n").dropLast ++ [(Txt.split z "\n").getLastD ""] := by
      have e := List.dropLast_concat_getLast f1
      rw [List.getLastD_eq_getLast?, List.getLast?_eq_getLast f1]
      exact e.symm
    have eT : rdT z = rdH ((Txt.split z "\n").getLastD "") 0 (-1) (Txt.split z "\n").dropLast := rfl
    generalize (Txt.split z "\n").getLastD "" = rest at parts eT
    have plen : (Txt.split z "\n").length = (Txt.split z "\n").dropLast.length + 1 := by
      have := congrArg List.length parts
      rw [List.length_append] at this
      exact this
    -- the parts
    refine ⟨_, rfl, ⟨_, rfl⟩, z, _, rfl, rfl, rfl, (Nat.le_trans (by omega : z.length + 2 ≤ 100000) (by decide)), fun l nl => ?_⟩
    have sl : Same H (upd H l (.lst ((Txt.split z "\n").map V.str))) := same_new nl
    refine ⟨Nat.zero_le _, fun p np => ?_⟩
    have s1 := sl.trans (same_new (o := .lst []) np)
    have hpn : H p = none := sl.free np
    have lp : l ≠ p := ne_of_none (H := upd H l (.lst ((Txt.split z "\n").map V.str))) upd_same np
    have hl1 : (upd (upd H l (.lst ((Txt.split z "\n").map V.str))) p (.lst [])) l = some (.lst ((Txt.split z "\n").map V.str)) := same_new np _ _ upd_same
    generalize hps : Txt.split z "\n" = ps at *
    generalize hls : ps.dropLast = ls at *
    have ml : (ps.map V.str).length = ps.length := List.length_map ..
    refine ⟨_, rfl, l, _, rfl, .inl (.inl (.inl hl1)), _, _, rfl, rfl, _, rfl, by omega, by omega, ?_⟩
    have tn : (((ps.map V.str).length : Int) - 1).toNat = ls.length := by omega
    rw [tn]
    -- what is told at the end
    have tell : ∀ (t : Ft) (i : Nat) (H' : Hp) (u : Addr), Same H H' → H' u = none → rdT z = .inr (t, i) → Q (.ref u) (upd H' u (.tup [.str (tagOf t), .int (i : Int)])) := fun t i H' u sm nu e =>
      q _ _ (sm.trans (same_new nu)) (Due.of (by rw [e]; rfl) due_int)
    refine for_range (lo := 0) (n := ls.length) (fun i σ H' => ∃ (L : PL) (y3 y4 y5 : Option V), σ = [some (.str z), some (.ref l), some (.ref p), y3, y4, y5] ∧ So H H' p l ps i L ∧ i ≤ 8 ∧ rdT z = ahead (L.map (·.2)) (rdH rest i (lastN L) (ls.drop i)))
      ⟨[], none, none, none, rfl, ⟨s1, upd_same, hl1, (fun q hq => nomatch hq), rfl, lp⟩, Nat.zero_le _, by rw [eT, List.drop_zero]; show _ = ahead [] (rdH rest 0 (-1) ls); cases rdH rest 0 (-1) ls <;> rfl⟩ (fun i σ H' hi hW => ?_) (fun σ H' hW => ?_)
    · obtain ⟨L, y3, y4, y5, rfl, so, i8, er⟩ := hW
      have ez : ls[i]? = some ls[i] := List.getElem?_eq_getElem hi
      generalize ls[i] = ln at ez
      have lm : ln ∈ ps := by rw [parts]; exact List.mem_append_left _ (List.mem_of_getElem? ez)
      have lnl := f3 ln lm
      rw [drop_at ez] at er
      have pz : (ps.map V.str)[i]? = some (.str ln) := by
        rw [List.getElem?_map, parts, List.getElem?_append_left hi, ez]
        rfl
      have pa : atI (ps.map V.str) (0 + (i : Int)) = some (.str ln) := by rw [Int.zero_add]; exact atI_nat pz
      have SL : ∀ {H2 : Hp}, Same H' H2 → SqL K H2 l (ps.map V.str) := fun e => .inl (.inl (e _ _ so.hl))
      -- at
      refine ⟨_, rfl, _, rfl, l, _, _, _, rfl, rfl, SL (Same.refl _), pa, ⟨_, rfl⟩, ln, _, rfl, rfl, ?_⟩
      -- the numeral
      refine ⟨_, rfl, _, rfl, l, _, _, _, rfl, rfl, SL (Same.refl _), pa, _, rfl, _, _, rfl, _, rfl, ln, rfl, short_line (by omega), ?_⟩
      refine ⟨_, rfl, by have := cutS_length ln none (some (if Txt.find ln ":" > 0 then Txt.find ln ":" else 0)); omega, fun H2 s2 => ?_⟩
      have so2 := so.same s2
      rcases col_cases ln with ⟨c1, _, c3⟩ | ⟨j, a, b, c1, _, c3, ta, tb, hj⟩
      · -- no colon
        have e0 : TL.tl (cutS ln none (some (if Txt.find ln ":" > 0 then Txt.find ln ":" else 0))) = [] := by
          rw [c3]
          exact cut_take ln 0
        rw [e0]
        have er2 : lineR ln = .inr .line := by unfold lineR; rw [c1]
        refine ⟨_, rfl, rfl, _, rfl, ?_⟩
        refine ⟨_, rfl, sz, fun u nu => ?_⟩
        have := tell .line i H2 u so2.sm nu (ahead_err er (by rw [rdH, er2]))
        rw [Int.zero_add]
        exact this
      · have e0 : TL.tl (cutS ln none (some (if Txt.find ln ":" > 0 then Txt.find ln ":" else 0))) = TL.tl a := by
          rw [c3]
          have : (if (j : Int) > 0 then (j : Int) else 0) = (j : Int) := by split <;> omega
          rw [this, cut_take, ta]
        rw [e0]
        cases hn : numIn (TL.tl a) with
        | none =>
          have er2 : lineR ln = .inr .line := by unfold lineR; rw [c1]; show (match numIn (TL.tl a) with | none => _ | some n => _) = _; rw [hn]
          refine ⟨_, rfl, rfl, _, rfl, ?_⟩
          refine ⟨_, rfl, sz, fun u nu => ?_⟩
          have := tell .line i H2 u so2.sm nu (ahead_err er (by rw [rdH, er2]))
          rw [Int.zero_add]
          exact this
        | some n =>
          have er2 : lineR ln = if 40 < b.length then .inr .text else .inl (n, b) := by unfold lineR; rw [c1]; show (match numIn (TL.tl a) with | none => _ | some n => _) = _; rw [hn]
          have bl : b.length = ln.length - (j + 1) := by rw [tl_len, tb, List.length_drop, ← tl_len]
          refine ⟨_, rfl, rfl, _, rfl, ?_⟩
          refine ⟨_, rfl, _, rfl, l, _, _, _, rfl, rfl, SL s2, pa, ln, rfl, short_line (by omega), _, rfl, _, _, rfl, rfl, _, _, rfl, rfl, _, _, rfl, rfl, _, rfl, ite2 (fun e => ?_) (fun e => ?_)⟩
          · have g := of_decide_eq_true e
            rw [c3] at g
            rw [if_pos (by omega)] at er2
            refine ⟨_, rfl, sz, fun u nu => ?_⟩
            have := tell .text i H2 u so2.sm nu (ahead_err er (by rw [rdH, er2]))
            rw [Int.zero_add]
            exact this
          · have g : ¬ (40 : Int) < (ln.length : Int) - Txt.find ln ":" - 1 := fun y => e (decide_eq_true y)
            rw [c3] at g
            rw [if_neg (by omega)] at er2
            have hL : So H H2 p l ps i L := so2
            -- the order
            have order : (n : Int) ≤ lastN L → ∀ u, H2 u = none → Q (.ref u) (upd H2 u (.tup [.str "order", .int (0 + (i : Int))])) := fun c u nu => by
              have := tell .order i H2 u so2.sm nu (ahead_err er (by rw [rdH, er2]; show (if (n : Int) ≤ lastN L then _ else _) = _; rw [if_pos c]))
              rw [Int.zero_add]
              exact this
            refine ⟨fun σ3 H3 => H3 = H2 ∧ ¬ (n : Int) ≤ lastN L ∧ σ3 = [some (.str z), some (.ref l), some (.ref p), some (.int (0 + (i : Int))), some (.int (Txt.find ln ":")), some (.int (n : Int))], ?_, ?_⟩
            · refine ⟨_, rfl, p, _, rfl, .inl (.inl (.inl so2.hp)), _, _, rfl, rfl, _, rfl, ite2 (fun e3 => ?_) (fun e3 => iteF ⟨rfl, ?_, rfl⟩)⟩
              · have p0 := of_decide_eq_true e3
                have ne : L ≠ [] := fun y => by rw [y] at p0; simp [refs] at p0
                have aL : atI (refs L) (-1) = some (.ref (L.getLast ne).1) := by
                  have eL := List.dropLast_concat_getLast ne
                  generalize L.getLast ne = t at eL
                  rw [← eL]
                  unfold refs
                  rw [List.map_append]
                  exact atI_last _ _
                have lN : lastN L = (L.getLast ne).2.1 := by
                  have eL := List.dropLast_concat_getLast ne
                  generalize L.getLast ne = t at eL
                  rw [← eL, lastN_snoc]
                have tm : L.getLast ne ∈ L := List.getLast_mem ne
                refine ⟨_, rfl, _, rfl, 1, rfl, p, _, _, _, rfl, rfl, .inl (.inl so2.hp), aL, _, _, _, _, rfl, rfl, .inl (.inl (so2.ps _ tm)), (show atI [V.int (L.getLast ne).2.1, V.str (L.getLast ne).2.2] 0 = some (.int (L.getLast ne).2.1) from rfl), _, _, rfl, rfl, _, rfl, ite2 (fun e4 => ?_) (fun e4 => ⟨rfl, ?_, rfl⟩)⟩
                · have c := of_decide_eq_true e4
                  exact ⟨_, rfl, sz, order (by rw [lN]; exact c)⟩
                · rw [lN]
                  exact fun y => e4 (decide_eq_true y)
              · have p0 : ¬ (0 : Int) < ((refs L).length : Int) := fun y => e3 (decide_eq_true y)
                have L0 : L = [] := List.length_eq_zero_iff.mp (by rw [refs_len] at p0; omega)
                rw [L0]
                show ¬ (n : Int) ≤ -1
                omega
            · rintro σ3 H3 ⟨rfl, ord, rfl⟩
              refine ⟨_, rfl, rfl, _, rfl, ite2 (fun e4 => ?_) (fun e4 => ?_)⟩
              · have c := of_decide_eq_true e4
                have ci : i = 8 := by injection c with c; omega
                refine ⟨_, rfl, sz, fun u nu => ?_⟩
                have := tell .many i H3 u so2.sm nu (ahead_err er (by rw [rdH, er2]; show (if (n : Int) ≤ lastN L then _ else if 8 ≤ i then _ else _) = _; rw [if_neg ord, if_pos (by omega)]))
                rw [Int.zero_add]
                exact this
              · have ci : i ≠ 8 := fun y => e4 (decide_eq_true (by rw [y]; rfl))
                refine ⟨_, rfl, .inl ⟨rfl, _, SqL.of so2.hp⟩, _, rfl, _, rfl, _, rfl, l, _, _, _, rfl, rfl, SL s2, pa, _, rfl, _, _, rfl, rfl, _, rfl, ln, rfl, short_line (by omega), sz, fun u nu => ?_⟩
                have eb : cutS ln (some (Txt.find ln ":" + 1)) none = b := by
                  refine TL.ext_tl ?_
                  rw [c3, show (j : Int) + 1 = ((j + 1 : Nat) : Int) by omega, cut_drop, tb]
                have so4 := so2.same (same_new (o := .tup [.int (n : Int), .str (cutS ln (some (Txt.find ln ":" + 1)) none)]) nu)
                refine ⟨p, _, _, rfl, rfl, so4.hp, ?_, ?_⟩
                · rw [refs_len, so4.len]; exact Nat.lt_of_lt_of_le (by omega : i < 100000) (by decide)
                refine ⟨L ++ [(u, (n : Int), b)], _, _, _, rfl, ⟨same_mut so4.sm hpn, ?_, ?_, fun q hq => ?_, ?_, so4.ne⟩, by omega, ?_⟩
                · rw [upd_same]; unfold refs; rw [List.map_append]; rfl
                · rw [upd_ne so4.ne]
                  exact so4.hl
                · have qp : q.1 ≠ p := fun y => by
                    rcases List.mem_append.mp hq with m | m
                    · have a1 := so4.ps q m
                      rw [y, so4.hp] at a1
                      cases a1
                    · rw [List.mem_singleton.mp m] at y
                      have a1 := so4.hp
                      rw [← y] at a1
                      rw [show (u, (n : Int), b).1 = u from rfl, upd_same] at a1
                      cases a1
                  rw [upd_ne qp]
                  rcases List.mem_append.mp hq with m | m
                  · exact so4.ps q m
                  · rw [List.mem_singleton.mp m, ← eb]; exact upd_same
                · rw [List.length_append, so4.len]; rfl
                · rw [er, rdH_step er2 ord (by omega), List.map_append, lastN_snoc]
                  rfl
    · obtain ⟨L, y3, y4, y5, rfl, so, i8, er⟩ := hW
      rw [List.drop_of_length_le (Nat.le_refl _)] at er
      have last : atI (ps.map V.str) (-1) = some (.str rest) := by
        rw [parts, List.map_append]
        exact atI_last _ _
      refine ⟨_, rfl, 1, rfl, l, _, _, _, rfl, rfl, .inl (.inl so.hl), last, rfl, _, rfl, ite2 (fun e => ?_) (fun e => ?_)⟩
      · have c : rest ≠ "" := fun y => by rw [y] at e; exact absurd (show (!decide (V.str ("" : Str) = V.str "")) = true from e) (by decide)
        have : rdT z = .inr (.line, ls.length) := ahead_err er (by rw [rdH, if_neg c])
        refine ⟨_, rfl, l, _, rfl, .inl (.inl (.inl so.hl)), _, _, rfl, rfl, sz, fun u nu => ?_⟩
        have t := tell .line ls.length H' u so.sm nu this
        have e9 : ((ps.map V.str).length : Int) - 1 = (ls.length : Int) := by omega
        show Q (.ref u) (upd H' u (.tup [.str "line", .int (((ps.map V.str).length : Int) - 1)]))
        rw [e9]
        exact t
      · have c : rest = "" := Decidable.byContradiction fun y => e (by
          have : ¬ V.str rest = V.str "" := fun x => y (by injection x)
          show (!decide (V.str rest = V.str "")) = true
          rw [decide_eq_false this]; rfl)
        have : rdT z = .inl (L.map (·.2)) := by
          rw [er, rdH, if_pos c]
          show Sum.inl (L.map (·.2) ++ []) = _
          rw [List.append_nil]
        refine ⟨_, rfl, sz, fun u nu => q _ _ (so.sm.trans (same_new nu)) (Due.of (by rw [this]; rfl) (due_house (L := L) ⟨.inl (.inl so.hp), fun x hx => .inl (.inl (so.ps x hx))⟩ nu))⟩
end

end SH
set_option Elab.async false
set_option linter.all false
set_option maxRecDepth 100000
set_option maxHeartbeats 4000000
namespace SH
open PySem PySem.Spec PyProof.Rows L2
section
variable {P : Program} {w : World} {K : PySem.W.Frag} {mg : Str → Option Value} {base : Heap} {ea : Ea}
/-- a text that may stand in a text house's place: signs, and not too many -/
def Rd (n : Nat) (z : Str) : Prop := z.length ≤ n ∧ OkS z
theorem cut_from (xs : List V) (k : Nat) : cutV xs (some (k : Int)) none = xs.drop k := by
  show (xs.drop (HT.sIx xs.length 0 (some (k : Int)))).take (HT.sIx xs.length xs.length none - HT.sIx xs.length 0 (some (k : Int))) = _
  rw [HT.sIx_none, HT.sIx_nat]
  rcases Nat.le_total k xs.length with h | h
  · rw [Nat.min_eq_left h, List.take_of_length_le (by rw [List.length_drop]; omega)]
  · rw [Nat.min_eq_right h, Nat.sub_self, List.take_zero]
    exact (List.drop_eq_nil_of_le h).symm
theorem lines_to (ys : List Str) (k : Nat) : cutV (ys.map V.str) none (some (k : Int)) = (ys.take k).map V.str := by rw [cut_to, List.map_take]
theorem lines_from (ys : List Str) (k : Nat) : cutV (ys.map V.str) (some (k : Int)) none = (ys.drop k).map V.str := by rw [cut_from, List.map_drop]
theorem rd_join {n : Nat} {ys : List Str} (h : tot ys ≤ n) (ok : ∀ x ∈ ys, OkS x) : Rd n (Txt.join "\n" ys) := ⟨Nat.le_trans (join_tot ys) h, ok_join (show ∀ c ∈ TL.tl ("\n" : Str), c < 1114112 by decide) ok⟩
theorem tot_asks {ys : List Str} {n : Nat} (h : tot ys ≤ n) (hn : n ≤ 100000) : (ys.map (·.length)).sum + ys.length * ("\n" : Str).length ≤ 16777216 := by
  unfold tot at h
  show _ + _ * 1 ≤ _
  omega
theorem tot_mem {ys : List Str} {x : Str} (h : x ∈ ys) : x.length + 1 ≤ tot ys := by
  obtain ⟨a, b, rfl⟩ := List.append_of_mem h
  rw [tot_app, show x :: b = [x] ++ b from rfl, tot_app, tot_one]
  omega
theorem tot_len (ys : List Str) : ys.length ≤ tot ys := by unfold tot; omega
theorem ixs_ok {z : Str} {j : Int} {H : Hp} {Q : VK} (hz : OkS z) (hl : z.length ≤ sizeLine) (h0 : 0 ≤ j) (h1 : j < (z.cps.toList.length : Int)) (h : ∀ c, OkS ⟨#[c]⟩ → Q (.str ⟨#[c]⟩) H) : rIxS (.str z) (.int j) H Q := by
  obtain ⟨n, rfl⟩ : ∃ n : Nat, j = n := ⟨j.toNat, by omega⟩
  have hn : n < z.cps.toList.length := by omega
  refine ⟨z, n, z.cps.toList[n], rfl, rfl, hl, atI_nat (List.getElem?_eq_getElem hn), h _ fun d hd => ?_⟩
  rw [List.mem_singleton.mp (show d ∈ [z.cps.toList[n]] from hd)]
  exact hz _ (List.getElem_mem hn)
theorem join0_le {ys : List Str} {c : Nat} (h : ∀ y ∈ ys, y.length ≤ c) : (Txt.join "" ys).length ≤ ys.length * c := by
  have e : TL.tl (Txt.join "" ys) = (ys.map TL.tl).flatten := by
    rw [TL.join_eq, TL.tl_join]
    exact joinL_nil _
  rw [tl_len, e, List.length_flatten, List.map_map]
  exact sum_le (List.length ∘ TL.tl) c ys fun y hy => by
    have := h y hy
    rw [tl_len] at this
    exact this
theorem nine_line {j : Nat} (h : j < 9) : (90 + (0 + (j : Int))).natAbs.log2 < 1920 ∧ (Str.ofString (toString (90 + (0 + (j : Int)))) ++ (":x\n" : Str)).length ≤ 5 ∧ OkS (Str.ofString (toString (90 + (0 + (j : Int)))) ++ (":x\n" : Str)) := by
  have e : (90 : Int) + (0 + (j : Int)) = ((90 + j : Nat) : Int) := by omega
  have t : TL.tl (Str.ofString (toString (90 + (0 + (j : Int))))) = [48 + (90 + j) / 10] ++ [48 + (90 + j) % 10] := by
    rw [num_str (by omega), e, Int.toNat_natCast, TL.numL_step (by omega), TL.numL_lt (by omega)]
  refine ⟨by rw [e]; exact log_small (by omega), ?_, OkS.app (fun c hc => ?_) (show ∀ c ∈ TL.tl (":x\n" : Str), c < 1114112 by decide)⟩
  · rw [len_app, tl_len, t]
    show 2 + 3 ≤ 5
    decide
  · rw [t] at hc
    simp at hc
    omega
def spSpoilt (K : PySem.W.Frag) : Sp := fun vs H Q _ => ∃ (a : Addr) (ns : List Int) (z : Str), vs = [.ref a, .str z] ∧ SqL K H a (ns.map V.int) ∧ Dr ns ∧ Rd 400 z ∧ ∀ (x : Str) (H' : Hp), Same H H' → Rd 50000 x → Q (.str x) H'
theorem sc__law_spoilt : FnScope ["draws", "text", "turn", "word", "place", "sign", "lines", "which", "k"] ["draws", "text"] (defScope s__law_spoilt) := ⟨rfl, rfl, rfl, by decide +kernel, rfl, by decide +kernel, by decide +kernel⟩
theorem ok__law_spoilt (T : Txt K mg ea) (c__law_at : Cl P w K mg base 1 "_law_at" (spDraw K)) : Cl P w K mg base 2 "_law_spoilt" (spSpoilt K) := by
  have nd := sc__law_spoilt.nd
  refine cl_of T.d__law_spoilt sc__law_spoilt (fun vs H Q E h => ?_) (fun f cdv A outer s H vs Q E hr h => ?_)
  · obtain ⟨a, ns, z, rfl, _⟩ := h
    rfl
  · obtain ⟨a, ns, z0, rfl, hS, hD, hz, q⟩ := h
    refine ⟨_, (pss_cons (ps_for PassesOwn.never rfl (pi_range1 rfl T.b_range (pa_cons (C8.pe_c c__law_at hr (by decide) (by rfl) (pa_cons (pv 0) (pa_cons pe_int (pa_cons pe_int pa_nil)))) pa_nil)) (pg_name (i := 2) nd rfl (.inl rfl))
        (pss_cons (ps_set (i := 3) nd rfl (.inl rfl) (C8.pe_c c__law_at hr (by decide) (by rfl) (pa_cons (pv 0) (pa_cons (pe_op op_add pe_int (pe_op op_mul pe_int (pv 2))) (pa_cons pe_int pa_nil)))))
          (pss_cons (ps_set (i := 4) nd rfl (.inl rfl) (C8.pe_c c__law_at hr (by decide) (by rfl) (pa_cons (pv 0) (pa_cons (pe_op op_add pe_int (pe_op op_mul pe_int (pv 2))) (pa_cons (pe_op op_add (pe_callB call_len_str (by rfl) T.b_len PySem.boot_len (pa_cons (pv 1) pa_nil)) pe_int) pa_nil)))))
          (pss_cons (ps_set (i := 5) nd rfl (.inl rfl) (pe_ix ix_str pe_str (C8.pe_c c__law_at hr (by decide) (by rfl) (pa_cons (pv 0) (pa_cons (pe_op op_add pe_int (pe_op op_mul pe_int (pv 2))) (pa_cons pe_int pa_nil)))) (fun _ _ => rfl)))
          (pss_cons (ps_set (i := 6) nd rfl (.inl rfl) (pe_split (pv 1) pe_str))
          (pss_cons (ps_set (i := 7) nd rfl (.inl rfl) (C8.pe_c c__law_at hr (by decide) (by rfl) (pa_cons (pv 0) (pa_cons (pe_op op_add pe_int (pe_op op_mul pe_int (pv 2))) (pa_cons (pe_callB call_len_seq (by rfl) T.b_len PySem.boot_len (pa_cons (pv 6) pa_nil)) pa_nil)))))
          (pss_one (ps_if (pt_cmpR op_eq (pv 3) pe_int (nomark _))
            (pss_one (ps_set (i := 1) nd rfl (.inl rfl) (pe_op op_add_str (pe_op op_add_str (pe_slice sl_str (pv 1) po_none (po_some (pv 4))) (pv 5)) (pe_slice sl_str (pv 1) (po_some (pv 4)) po_none))))
            (pss_one (ps_if (pt_cmpR op_eq (pv 3) pe_int (nomark _))
                (pss_one (ps_set (i := 1) nd rfl (.inl rfl) (pe_op op_add_str (pe_slice sl_str (pv 1) po_none (po_some (pv 4))) (pe_slice sl_str (pv 1) (po_some (pe_op op_add (pv 4) pe_int)) po_none))))
                (pss_one (ps_if (pt_cmpR op_eq (pv 3) pe_int (nomark _))
                    (pss_one (ps_set (i := 1) nd rfl (.inl rfl) (pe_op op_add_str (pe_op op_add_str (pe_slice sl_str (pv 1) po_none (po_some (pv 4))) (pv 5)) (pe_slice sl_str (pv 1) (po_some (pe_op op_add (pv 4) pe_int)) po_none))))
                    (pss_one (ps_if (pt_cmpR op_eq (pv 3) pe_int (nomark _))
                        (pss_one (ps_set (i := 1) nd rfl (.inl rfl) (pe_join pe_str (pe_op op_cat (pe_slice sl_list (pv 6) po_none (po_some (pv 7))) (pe_slice sl_list (pv 6) (po_some (pe_op op_add (pv 7) pe_int)) po_none)))))
                        (pss_one (ps_if (pt_cmpR op_eq (pv 3) pe_int (nomark _))
                            (pss_one (ps_set (i := 1) nd rfl (.inl rfl) (pe_join pe_str (pe_op op_cat (pe_op op_cat (pe_slice sl_list (pv 6) po_none (po_some (pv 7))) (pe_lst (pa_cons (pe_ix (ixl (K := K)) (pv 6) (pv 7) (fun _ _ => rfl)) pa_nil))) (pe_slice sl_list (pv 6) (po_some (pv 7)) po_none)))))
                            (pss_one (ps_if (pt_cmpR op_eq (pv 3) pe_int (nomark _))
                                (pss_one (ps_set (i := 1) nd rfl (.inl rfl) (pe_op op_add_str (pv 1) (pe_join pe_str (pe_lc (own := [("k", 8)]) (g := (gName 8)) rfl nd (pi_range1 rfl T.b_range (pa_cons pe_int pa_nil)) (blkOk_by (own := [("k", 8)]) (N := ["draws", "text", "turn", "word", "place", "sign", "lines", "which", "k"]) (sc := defScope s__law_spoilt) (by decide +kernel)) (fun _ _ _ _ _ => (pg_name (i := 8) nd rfl (.inl rfl))) (fun _ _ _ _ _ => pts_nil) (fun _ _ _ _ _ => (pe_op op_add_str (pe_callTy call_str_int (by rfl) T.b_str (by decide +kernel) (pa_cons (pe_op op_add pe_int (pv 8)) pa_nil)) pe_str)))))))
                                (pss_one (ps_if (pt_cmpR op_eq (pv 3) pe_int (nomark _))
                                    (pss_one (ps_set (i := 1) nd rfl (.inl rfl) (pe_join pe_str (pe_op op_cat (pe_op op_cat (pe_slice sl_list (pv 6) po_none (po_some (pv 7))) (pe_lst (pa_cons (pe_op op_add_str (pe_ix (ixl (K := K)) (pv 6) (pv 7) (fun _ _ => rfl)) (pe_join pe_str (pe_lc (own := [("k", 8)]) (g := (gName 8)) rfl nd (pi_range1 rfl T.b_range (pa_cons pe_int pa_nil)) (blkOk_by (own := [("k", 8)]) (N := ["draws", "text", "turn", "word", "place", "sign", "lines", "which", "k"]) (sc := defScope s__law_spoilt) (by decide +kernel)) (fun _ _ _ _ _ => (pg_name (i := 8) nd rfl (.inl rfl))) (fun _ _ _ _ _ => pts_nil) (fun _ _ _ _ _ => pe_str)))) pa_nil))) (pe_slice sl_list (pv 6) (po_some (pe_op op_add (pv 7) pe_int)) po_none)))))
                                    (pss_one (ps_set (i := 1) nd rfl (.inl rfl) (pe_slice sl_str (pv 1) po_none (po_some (pv 4)))))))))))))))))))))))))
      (pss_one (ps_ret (pv 1)))), ?_⟩
    refine ⟨_, rfl, a, ns, 0, 3, rfl, hS, hD, by omega, by omega, by omega, fun r r0 r1 => ?_⟩
    refine ⟨r, rfl, by omega, by omega, ?_⟩
    refine for_range (lo := 0) (n := r.toNat) (fun i σ H' => ∃ (z : Str) (y2 y3 y4 y5 y6 y7 y8 : Option V), σ = [some (.ref a), some (.str z), y2, y3, y4, y5, y6, y7, y8] ∧ Same H H' ∧ Rd (400 * 4 ^ i) z)
      ⟨z0, none, none, none, none, none, none, none, rfl, Same.refl _, hz⟩ (fun i σ H' hi hW => ?_) (fun σ H' hW => ?_)
    · obtain ⟨z, y2, y3, y4, y5, y6, y7, y8, rfl, sm, rz⟩ := hW
      have b1600 : 400 * 4 ^ i ≤ 1600 := by
        have : i = 0 ∨ i = 1 := by omega
        rcases this with e | e <;> subst e <;> decide
      have e4 : 4 ^ (i + 1) = 4 * 4 ^ i := by rw [Nat.pow_succ]; omega
      have p4 : 1 ≤ 4 ^ i := Nat.pow_pos (by decide)
      generalize 4 ^ i = B at b1600 e4 p4 rz
      have zl : z.length ≤ 1600 := by have := rz.1; omega
      have sz : ∀ {n : Nat}, n ≤ 100000 → n ≤ sizeLine := fun h => Nat.le_trans h (by decide)
      obtain ⟨f1, f2, f3⟩ := split_more z
      have fok := f3 rz.2
      -- word, place, sign
      refine ⟨_, rfl, _, rfl, _, _, rfl, rfl, .inl (by decide), _, _, rfl, rfl, a, ns, 1 + 4 * (0 + (i : Int)), 8, rfl, sm.seq hS, hD, by omega, by omega, by omega, fun word w0 w1 => ?_⟩
      refine ⟨_, rfl, _, rfl, _, _, rfl, rfl, .inl (by decide), _, _, rfl, rfl, _, rfl, z, rfl, sz (by omega), _, _, rfl, rfl, a, ns, 2 + 4 * (0 + (i : Int)), (z.length : Int) + 1, rfl, sm.seq hS, hD, by omega, by omega, by omega, fun place q0 q1 => ?_⟩
      refine ⟨_, rfl, _, rfl, _, _, rfl, rfl, .inl (by decide), _, _, rfl, rfl, a, ns, 3 + 4 * (0 + (i : Int)), 9, rfl, sm.seq hS, hD, by omega, by omega, by omega, fun sg g0 g1 => ?_⟩
      refine ixs_ok (show ∀ c ∈ TL.tl (" \n:0129ab" : Str), c < 1114112 by decide) (by decide) g0 (by show sg < (9 : Int); omega) fun c oc => ?_
      -- its lines, one of them
      refine ⟨_, rfl, ⟨_, rfl⟩, z, _, rfl, rfl, rfl, sz (by omega), fun l nl => ?_⟩
      generalize Txt.split z "\n" = ps at f1 f2 fok nl ⊢
      have pl := tot_len ps
      have p0 : 0 < ps.length := (by cases ps with | nil => exact absurd rfl f1 | cons x r => exact Nat.succ_pos _)
      have ml : (ps.map V.str).length = ps.length := List.length_map ..
      have sl : Same H (upd H' l (.lst (ps.map V.str))) := sm.trans (same_new nl)
      refine ⟨_, rfl, _, rfl, _, _, rfl, rfl, .inl (by decide), _, _, rfl, rfl, _, rfl, l, _, rfl, .inl (.inl (.inl upd_same)), a, ns, 4 + 4 * (0 + (i : Int)), _, rfl, sl.seq hS, hD, by omega, by omega, by omega, fun which h0 h1 => ?_⟩
      obtain ⟨wh, rfl⟩ : ∃ n : Nat, which = n := ⟨which.toNat, by omega⟩
      have wl : wh < ps.length := by omega
      have tp : tot ps ≤ B * 400 + 1 := by have := rz.1; omega
      have td := tot_take_drop ps wh
      have hl1 : (upd H' l (.lst (ps.map V.str))) l = some (.lst (ps.map V.str)) := upd_same
      generalize upd H' l (.lst (ps.map V.str)) = H1 at sl hl1 ⊢
      -- what is there for the next turn
      have done : ∀ (x : Str) (H2 : Hp) (y : Option V), Same H H2 → x.length ≤ 2 * (B * 400 + 1) + 48 → OkS x → ∃ (z' : Str) (y2 y3 y4 y5 y6 y7 y8 : Option V), [some (V.ref a), some (V.str x), some (V.int (0 + (i : Int))), some (V.int word), some (V.int place), some (V.str ⟨#[c]⟩), some (V.ref l), some (V.int wh), y] = [some (.ref a), some (.str z'), y2, y3, y4, y5, y6, y7, y8] ∧ Same H H2 ∧ Rd (400 * 4 ^ (i + 1)) z' :=
        fun x H2 y e hx ok => ⟨x, _, _, _, _, _, _, _, rfl, e, by rw [e4]; omega, ok⟩
      have oz := rz.2
      have zB := rz.1
      have cl := cutS_length z
      have oc1 : (⟨#[c]⟩ : Str).length = 1 := rfl
      -- the lines put together
      have lines : ∀ (ys : List Str) (p : Addr) (H2 : Hp), H2 p = some (.lst (ys.map V.str)) → Same H H2 → tot ys ≤ 2 * (B * 400 + 1) + 40 → (∀ x ∈ ys, OkS x) → True := fun _ _ _ _ _ _ _ => trivial
      refine ⟨_, rfl, rfl, _, rfl, ite2 (fun e => ?_) (fun e => ?_)⟩
      · -- put in
        refine ⟨_, rfl, _, rfl, place, rfl, z, rfl, sz (by omega), _, rfl, _, _, rfl, rfl, ?_, _, rfl, _, rfl, place, rfl, z, rfl, sz (by omega), _, _, rfl, rfl, ?_, ?_⟩
        · have := cl none (some place); exact sz (by omega)
        · have := cl none (some place); have := cl (some place) none; rw [len_app]; exact sz (by omega)
        · refine done _ H1 _ sl ?_ ((oz.cut _ _).app oc |>.app (oz.cut _ _))
          have := cl none (some place); have := cl (some place) none; rw [len_app, len_app]; omega
      refine ⟨_, rfl, rfl, _, rfl, ite2 (fun e => ?_) (fun e => ?_)⟩
      · -- left out
        refine ⟨_, rfl, _, rfl, place, rfl, z, rfl, sz (by omega), _, rfl, _, rfl, _, _, rfl, rfl, _, rfl, z, rfl, sz (by omega), _, _, rfl, rfl, ?_, ?_⟩
        · have := cl none (some place); have := cl (some (place + 1)) none; exact sz (by omega)
        · refine done _ H1 _ sl ?_ ((oz.cut _ _).app (oz.cut _ _))
          have := cl none (some place); have := cl (some (place + 1)) none; rw [len_app]; omega
      refine ⟨_, rfl, rfl, _, rfl, ite2 (fun e => ?_) (fun e => ?_)⟩
      · -- exchanged
        refine ⟨_, rfl, _, rfl, place, rfl, z, rfl, sz (by omega), _, rfl, _, _, rfl, rfl, ?_, _, rfl, _, rfl, _, _, rfl, rfl, _, rfl, z, rfl, sz (by omega), _, _, rfl, rfl, ?_, ?_⟩
        · have := cl none (some place); exact sz (by omega)
        · have := cl none (some place); have := cl (some (place + 1)) none; rw [len_app]; exact sz (by omega)
        · refine done _ H1 _ sl ?_ ((oz.cut _ _).app oc |>.app (oz.cut _ _))
          have := cl none (some place); have := cl (some (place + 1)) none; rw [len_app, len_app]; omega
      have SL : ∀ {H2 : Hp}, Same H1 H2 → SqL K H2 l (ps.map V.str) := fun e => .inl (.inl (e _ _ hl1))
      have mt : ∀ {j : Nat} {x : Str}, x ∈ ps.take j → OkS x := fun m => fok _ (List.mem_of_mem_take m)
      have md : ∀ {j : Nat} {x : Str}, x ∈ ps.drop j → OkS x := fun m => fok _ (List.mem_of_mem_drop m)
      have nw : ((wh : Int) + 1) = ((wh + 1 : Nat) : Int) := by omega
      have az : ps[wh]? = some ps[wh] := List.getElem?_eq_getElem wl
      have am : ps[wh] ∈ ps := List.getElem_mem wl
      generalize ps[wh] = ln at az am
      have pz : atI (ps.map V.str) (wh : Int) = some (.str ln) := atI_nat (by rw [List.getElem?_map, az]; rfl)
      have tm := tot_mem am
      have dz := drop_at az
      have td1 : tot (ps.drop wh) = ln.length + 1 + tot (ps.drop (wh + 1)) := by rw [dz, show ln :: ps.drop (wh + 1) = [ln] ++ ps.drop (wh + 1) from rfl, tot_app, tot_one]
      refine ⟨_, rfl, rfl, _, rfl, ite2 (fun e => ?_) (fun e => ?_)⟩
      · -- a line left out
        refine ⟨⟨_, rfl⟩, _, rfl, _, rfl, (wh : Int), rfl, l, _, rfl, SL (Same.refl _), fun u1 n1 => ?_⟩
        have s1 := same_new (o := .lst (cutV (ps.map V.str) none (some (wh : Int)))) n1
        refine ⟨_, rfl, _, rfl, _, _, rfl, rfl, _, rfl, l, _, rfl, SL s1, fun u2 n2 => ?_⟩
        have s2 := same_new (o := .lst (cutV (ps.map V.str) (some ((wh : Int) + 1)) none)) n2
        have hy : tot (ps.take wh ++ ps.drop (wh + 1)) ≤ B * 400 + 1 := by rw [tot_app]; omega
        refine ⟨u1, u2, _, _, rfl, rfl, s2 _ _ upd_same, upd_same, ?_, fun u3 n3 => ?_⟩
        · rw [lines_to, nw, lines_from, List.length_map, List.length_map, ← List.length_append]
          have := tot_len (ps.take wh ++ ps.drop (wh + 1))
          exact sz (by omega)
        have s3 := (s1.trans s2).trans (same_new (o := .lst (cutV (ps.map V.str) none (some (wh : Int)) ++ cutV (ps.map V.str) (some ((wh : Int) + 1)) none)) n3)
        refine ⟨"\n", u3, ps.take wh ++ ps.drop (wh + 1), rfl, rfl, .inl (.inl (.inl ?_)), tot_asks hy (by omega), ?_⟩
        · rw [upd_same, lines_to, nw, lines_from, ← List.map_append]
        have rj := rd_join hy fun x m => (List.mem_append.mp m).elim mt md
        exact done _ _ _ (sl.trans s3) (by have := rj.1; omega) rj.2
      refine ⟨_, rfl, rfl, _, rfl, ite2 (fun e => ?_) (fun e => ?_)⟩
      · -- a line doubled
        have hy : tot (ps.take wh ++ [ln] ++ ps.drop wh) ≤ 2 * (B * 400 + 1) := by rw [tot_app, tot_app, tot_one]; omega
        have hl := tot_len (ps.take wh ++ [ln] ++ ps.drop wh)
        have hl2 : (ps.take wh ++ [ln] ++ ps.drop wh).length = (ps.take wh).length + 1 + (ps.drop wh).length := by rw [List.length_append, List.length_append]; rfl
        refine ⟨⟨_, rfl⟩, _, rfl, _, rfl, (wh : Int), rfl, l, _, rfl, SL (Same.refl _), fun u1 n1 => ?_⟩
        have s1 := same_new (o := .lst (cutV (ps.map V.str) none (some (wh : Int)))) n1
        refine ⟨_, rfl, _, rfl, l, _, _, _, rfl, rfl, SL s1, pz, sz (by show 1 ≤ 100000; omega), fun u2 n2 => ?_⟩
        have s2 := s1.trans (same_new (o := .lst [.str ln]) n2)
        refine ⟨u1, u2, _, _, rfl, rfl, same_new n2 _ _ upd_same, upd_same, ?_, fun u3 n3 => ?_⟩
        · rw [lines_to, List.length_map]
          exact sz (by show (ps.take wh).length + 1 ≤ 100000; omega)
        have s3 := s2.trans (same_new (o := .lst (cutV (ps.map V.str) none (some (wh : Int)) ++ [V.str ln])) n3)
        refine ⟨_, rfl, _, rfl, (wh : Int), rfl, l, _, rfl, SL s3, fun u4 n4 => ?_⟩
        have s4 := s3.trans (same_new (o := .lst (cutV (ps.map V.str) (some (wh : Int)) none)) n4)
        refine ⟨u3, u4, _, _, rfl, rfl, same_new n4 _ _ upd_same, upd_same, ?_, fun u5 n5 => ?_⟩
        · rw [lines_to, lines_from, List.length_append, List.length_map, List.length_map]
          exact sz (by show (ps.take wh).length + 1 + (ps.drop wh).length ≤ 100000; omega)
        have s5 := s4.trans (same_new (o := .lst (cutV (ps.map V.str) none (some (wh : Int)) ++ [V.str ln] ++ cutV (ps.map V.str) (some (wh : Int)) none)) n5)
        refine ⟨"\n", u5, ps.take wh ++ [ln] ++ ps.drop wh, rfl, rfl, .inl (.inl (.inl ?_)), tot_asks hy (by omega), ?_⟩
        · rw [upd_same, lines_to, lines_from, List.map_append, List.map_append]
          rfl
        have rj := rd_join hy fun x m => by
          rcases List.mem_append.mp m with m | m
          · rcases List.mem_append.mp m with m | m
            · exact mt m
            · rw [List.mem_singleton.mp m]; exact fok _ am
          · exact md m
        exact done _ _ _ (sl.trans s5) (by have := rj.1; omega) rj.2
      refine ⟨_, rfl, rfl, _, rfl, ite2 (fun e => ?_) (fun e => ?_)⟩
      · -- lines behind it
        refine ⟨_, rfl, ⟨_, rfl⟩, 9, rfl, by decide, by decide, fun D nD => ?_⟩
        refine lc_w (walk_range (lo := 0) (n := 9)) nD (by decide) (fun _ _ => trivial) (fun i acc _ => ∃ ys : List Str, acc = ys.map V.str ∧ ys.length = i ∧ ∀ y ∈ ys, y.length ≤ 5 ∧ OkS y) (fun _ _ => ⟨[], rfl, rfl, fun y hy => nomatch hy⟩) (fun _ _ _ _ _ _ _ r => r) (fun i H x H' y => by rw [y.1]; exact Same.refl _)
          (fun j x acc H2 H3 Qn Qf hj sm y r at_ kn kf => ?_) (fun acc H2 sm at_ _ r => ?_)
        · obtain ⟨rfl, rfl⟩ := y
          obtain ⟨ys, a1, a2, a3⟩ := r
          obtain ⟨t1, t2, t3⟩ := nine_line (j := j) (by omega)
          refine ⟨rfl, _, rfl, _, _, rfl, rfl, _, rfl, t1, _, _, rfl, rfl, sz (by rw [← len_app]; omega), kn _ _ (Same.refl _) ⟨ys ++ [_], by rw [a1, List.map_append]; rfl, by rw [List.length_append, a2]; rfl, fun y hy => ?_⟩⟩
          rcases List.mem_append.mp hy with m | m
          · exact a3 y m
          · rw [List.mem_singleton.mp m]; exact ⟨t2, t3⟩
        · obtain ⟨ys, a1, a2, a3⟩ := r
          have jl := join0_le (ys := ys) (c := 5) fun y hy => (a3 y hy).1
          refine ⟨"", D, ys, rfl, rfl, .inl (.inl (.inl (by rw [at_, a1]))), ?_, z, _, rfl, rfl, ?_, ?_⟩
          · show _ + _ * 0 ≤ _
            have := sum_le (fun x : Str => x.length) 5 ys fun y hy => (a3 y hy).1
            omega
          · exact sz (by omega)
          · refine done _ H2 _ (sl.trans sm) (by rw [len_app]; omega) (oz.app (ok_join (show ∀ c ∈ TL.tl ("" : Str), c < 1114112 by decide) fun y hy => (a3 y hy).2))
      refine ⟨_, rfl, rfl, _, rfl, ite2 (fun e => ?_) (fun e => ?_)⟩
      · -- a line longer
        have ey : ∀ n c, Txt.join "" (List.replicate n (⟨#[c]⟩ : Str)) = Txt.join "" (List.replicate n (⟨#[c]⟩ : Str)) := fun _ _ => rfl
        refine ⟨⟨_, rfl⟩, _, rfl, _, rfl, (wh : Int), rfl, l, _, rfl, SL (Same.refl _), fun u1 n1 => ?_⟩
        have s1 := same_new (o := .lst (cutV (ps.map V.str) none (some (wh : Int)))) n1
        refine ⟨_, rfl, _, rfl, l, _, _, _, rfl, rfl, SL s1, pz, ?_⟩
        refine ⟨⟨_, rfl⟩, 30, rfl, by decide, by decide, fun D nD => ?_⟩
        refine lc_w (walk_range (lo := 0) (n := 30)) nD (by decide) (fun _ _ => trivial) (fun i acc _ => acc = (List.replicate i (⟨#[121]⟩ : Str)).map V.str) (fun _ _ => rfl)
          (fun _ _ _ _ _ _ _ r => r) (fun i H x H' y => by rw [y.1]; exact Same.refl _) (fun i x acc H2 H3 Qn Qf hi sm y r at_ kn kf => ?_) (fun acc H2 sm at_ _ ra => ?_)
        · obtain ⟨rfl, rfl⟩ := y
          refine ⟨rfl, kn _ _ (Same.refl _) ?_⟩
          rw [r, List.replicate_succ', List.map_append]
          rfl
        refine ⟨"", D, List.replicate 30 ⟨#[121]⟩, rfl, rfl, .inl (.inl (.inl (by rw [at_, ra]))), by decide, ln, _, rfl, rfl, sz (by rw [join_len]; omega), ?_⟩
        have ok6 : OkS (ln ++ Txt.join "" (List.replicate 30 (⟨#[121]⟩ : Str))) := (fok _ am).app fun c hc => by rw [join_mem hc]; decide
        have l6 : (ln ++ Txt.join "" (List.replicate 30 (⟨#[121]⟩ : Str))).length = ln.length + 30 := by rw [len_app, join_len]
        generalize ln ++ Txt.join "" (List.replicate 30 (⟨#[121]⟩ : Str)) = l9 at ok6 l6 ⊢
        have hy : tot (ps.take wh ++ [l9] ++ ps.drop (wh + 1)) ≤ B * 400 + 1 + 30 := by rw [tot_app, tot_app, tot_one]; omega
        have hl := tot_len (ps.take wh ++ [l9] ++ ps.drop (wh + 1))
        have hl2 : (ps.take wh ++ [l9] ++ ps.drop (wh + 1)).length = (ps.take wh).length + 1 + (ps.drop (wh + 1)).length := by rw [List.length_append, List.length_append]; rfl
        have s1' := s1.trans sm
        refine ⟨sz (by show 1 ≤ 100000; omega), fun u2 n2 => ?_⟩
        have s2 := s1'.trans (same_new (o := .lst [.str l9]) n2)
        refine ⟨u1, u2, _, _, rfl, rfl, (sm.trans (same_new n2)) _ _ upd_same, upd_same, ?_, fun u3 n3 => ?_⟩
        · rw [lines_to, List.length_map]
          exact sz (by show (ps.take wh).length + 1 ≤ 100000; omega)
        have s3 := s2.trans (same_new (o := .lst (cutV (ps.map V.str) none (some (wh : Int)) ++ [V.str l9])) n3)
        refine ⟨_, rfl, _, rfl, _, _, rfl, rfl, _, rfl, l, _, rfl, SL s3, fun u4 n4 => ?_⟩
        have s4 := s3.trans (same_new (o := .lst (cutV (ps.map V.str) (some ((wh : Int) + 1)) none)) n4)
        refine ⟨u3, u4, _, _, rfl, rfl, same_new n4 _ _ upd_same, upd_same, ?_, fun u5 n5 => ?_⟩
        · rw [lines_to, nw, lines_from, List.length_append, List.length_map, List.length_map]
          exact sz (by show (ps.take wh).length + 1 + (ps.drop (wh + 1)).length ≤ 100000; omega)
        have s5 := s4.trans (same_new (o := .lst (cutV (ps.map V.str) none (some (wh : Int)) ++ [V.str l9] ++ cutV (ps.map V.str) (some ((wh : Int) + 1)) none)) n5)
        refine ⟨"\n", u5, ps.take wh ++ [l9] ++ ps.drop (wh + 1), rfl, rfl, .inl (.inl (.inl ?_)), tot_asks hy (by omega), ?_⟩
        · rw [upd_same, lines_to, nw, lines_from, List.map_append, List.map_append]
          rfl
        have rj := rd_join hy fun x m => by
          rcases List.mem_append.mp m with m | m
          · rcases List.mem_append.mp m with m | m
            · exact mt m
            · rw [List.mem_singleton.mp m]; exact ok6
          · exact md m
        exact done _ _ _ (sl.trans s5) (by have := rj.1; omega) rj.2
      refine ⟨_, rfl, _, rfl, place, rfl, z, rfl, sz (by omega), ?_⟩
      exact done _ H1 _ sl (by have := cl none (some place); omega) (oz.cut _ _)
    · obtain ⟨z, y2, y3, y4, y5, y6, y7, y8, rfl, sm, rz⟩ := hW
      refine ⟨_, rfl, q z H' sm ⟨Nat.le_trans rz.1 ?_, rz.2⟩⟩
      have : r.toNat = 0 ∨ r.toNat = 1 ∨ r.toNat = 2 := by omega
      rcases this with e | e | e <;> rw [e] <;> decide
end

end SH
set_option Elab.async false
set_option linter.all false
set_option maxRecDepth 100000
set_option maxHeartbeats 4000000
namespace SH
open PySem PySem.Spec PyProof.Rows L2
section
variable {P : Program} {w : World} {K : PySem.W.Frag} {mg : Str → Option Value} {base : Heap} {ea : Ea}
/-! what is told can be compared -/
theorem line_ok {z b : Str} {n : Nat} (h : OkS z) (e : lineR z = .inl (n, b)) : OkS b := by
  rcases col_cases z with ⟨c1, _, _⟩ | ⟨j, a, x, c1, _, _, ta, tb, _⟩
  · unfold lineR at e
    rw [c1] at e
    cases e
  · unfold lineR at e
    rw [c1] at e
    have ox := (ok_part (x := z) h ta tb).2
    cases hn : numIn (TL.tl a) with
    | none =>
      have e' : (match numIn (TL.tl a) with | none => Sum.inr Ft.line | some n => if 40 < x.length then .inr .text else .inl (n, x)) = (Sum.inl (n, b) : Sum (Nat × Str) Ft) := e
      rw [hn] at e'
      cases e'
    | some m =>
      have e' : (match numIn (TL.tl a) with | none => Sum.inr Ft.line | some n => if 40 < x.length then .inr .text else .inl (n, x)) = (Sum.inl (n, b) : Sum (Nat × Str) Ft) := e
      rw [hn] at e'
      have e2 : (if 40 < x.length then Sum.inr Ft.text else .inl (m, x)) = (Sum.inl (n, b) : Sum (Nat × Str) Ft) := e'
      by_cases c : 40 < x.length
      · rw [if_pos c] at e2
        cases e2
      · rw [if_neg c] at e2
        injection e2 with e3
        injection e3 with _ e4
        rw [← e4]
        exact ox
def OkAll (h : List (Int × Str)) : Prop := ∀ q ∈ h, OkS q.2
theorem rdH_ok {rest : Str} : ∀ (ls : List Str) (k : Nat) (b : Int) (h : List (Int × Str)), (∀ x ∈ ls, OkS x) → rdH rest k b ls = .inl h → OkAll h
  | [], k, b, h, _, e => by
    rw [rdH] at e
    by_cases c : rest = ""
    · rw [if_pos c] at e
      injection e with e2
      rw [← e2]
      exact fun q hq => nomatch hq
    · rw [if_neg c] at e
      cases e
  | z :: r, k, b, h, ok, e => by
    rw [rdH] at e
    cases el : lineR z with
    | inr t =>
      rw [el] at e
      cases e
    | inl p =>
      obtain ⟨n, x⟩ := p
      rw [el] at e
      have e2 : (if (n : Int) ≤ b then Sum.inr (Ft.order, k) else if 8 ≤ k then .inr (.many, k) else match rdH rest (k + 1) n r with | .inl h => .inl (((n : Int), x) :: h) | .inr e => .inr e) = (Sum.inl h : Sum (List (Int × Str)) (Ft × Nat)) := e
      by_cases c1 : (n : Int) ≤ b
      · rw [if_pos c1] at e2; cases e2
      · rw [if_neg c1] at e2
        by_cases c2 : 8 ≤ k
        · rw [if_pos c2] at e2; cases e2
        · rw [if_neg c2] at e2
          cases er : rdH rest (k + 1) n r with
          | inr t =>
            rw [er] at e2
            cases e2
          | inl g =>
            rw [er] at e2
            injection e2 with e3
            rw [← e3]
            intro q hq
            rcases List.mem_cons.mp hq with m | m
            · rw [m]
              exact line_ok (ok z (List.mem_cons_self ..)) el
            · exact rdH_ok r (k + 1) n g (fun y m => ok y (List.mem_cons_of_mem _ m)) er q m
theorem rdT_ok {z : Str} {h : List (Int × Str)} (ok : OkS z) (e : rdT z = .inl h) : OkAll h :=
  rdH_ok _ _ _ _ (fun x m => (split_more z).2.2 ok x ((List.dropLast_sublist _).subset m)) e
theorem dH_layO : ∀ {h : List (Int × Str)}, OkAll h → PyData.canLayAll0 (h.map dPair) = true
  | [], _ => rfl
  | q :: r, a => by
    rw [List.map_cons, PyData.canLayAll0, dH_layO fun x m => a x (List.mem_cons_of_mem _ m)]
    simp [dPair, PyData.canLay0, PyData.canLayAll0, (a q (List.mem_cons_self ..)).ok]
theorem told_ok {z : Str} (ok : OkS z) : SeqAt.shaped (dT (toldOf (rdT z))) = true ∧ PyData.eqv (dT (toldOf (rdT z))) (dT (toldOf (rdT z))) = true := by
  cases e : rdT z with
  | inl h => exact dT_shaped (p := ("house", dH h)) (by show PyData.strOk ("house" : Str) = true; decide +kernel) (dH_layO (rdT_ok ok e)) (dH_depth h)
  | inr p =>
    obtain ⟨t, k⟩ := p
    refine dT_shaped (p := (tagOf t, .int (k : Int))) ?_ rfl (Nat.zero_le _)
    show PyData.strOk (tagOf t) = true
    cases t <;> decide +kernel
theorem due_dT {H : Hp} {v : V} {p : Str × PyData} (h : Due K H v p) : Dp K H v (dT p) := by
  obtain ⟨t, x, rfl, e, d⟩ := h
  exact .tup (.inl (.inl e)) (.cons (.str _) (.cons d .nil))
/-- the law: a list of at most 63 whole numbers, True -/
def spLaw (K : PySem.W.Frag) : Sp := fun vs H Q _ => ∃ (a : Addr) (ns : List Int), vs = [.ref a] ∧ SqL K H a (ns.map V.int) ∧ ns.length ≤ 63 ∧ ∀ H', Q (.bl true) H'
theorem sc_law : FnScope ["script", "draws", "house", "kept", "text", "back", "pair", "other", "number", "word"] ["script"] (defScope s_law) := ⟨rfl, rfl, rfl, by decide +kernel, rfl, by decide +kernel, by decide +kernel⟩
theorem ok_law (T : Txt K mg ea) {f : Addr} {fd : FuncData} (F : Fun K "law" "law" s_law f fd) (c__law_draws : Cl P w K mg base 1 "_law_draws" (spDraws K)) (c__law_at : Cl P w K mg base 1 "_law_at" (spDraw K)) (c__law_house : Cl P w K mg base 3 "_law_house" (spHouse K))
    (c_write_house : Cl P w K mg base 1 "write_house" (spWrite K)) (c_read_house : ClX P w K mg base 4 "read_house" (spReadHouse ea)) (c__law_spoilt : Cl P w K mg base 2 "_law_spoilt" (spSpoilt K)) (c__law_told : Cl P w K mg base 5 "_law_told" (spTold K)) (c__law_read : Cl P w K mg base 2 "_law_read" (spTold K)) :
    FnOk P w K mg base CX0 6 f fd ["script"] (spLaw K) := by
  have nd := sc_law.nd
  refine F.ok sc_law (fun vs H Q E h => ?_) (fun cdv A outer s H vs Q E hr h => ?_)
  · obtain ⟨a, ns, rfl, _⟩ := h
    rfl
  · obtain ⟨a, ns, rfl, hS, hl, q⟩ := h
    refine ⟨_, (pss_cons (ps_set (i := 1) nd rfl (.inl rfl) (C8.pe_c c__law_draws hr (by decide) (by rfl) (pa_cons (pv 0) pa_nil)))
      (pss_cons (ps_set (i := 2) nd rfl (.inl rfl) (C8.pe_c c__law_house hr (by decide) (by rfl) (pa_cons (pv 1) (pa_cons pe_int (pa_cons pe_int (pa_cons (pe_ix (ixl (K := K)) (pe_lst (pa_cons pe_int (pa_cons pe_int pa_nil))) (pe_callTy call_int1 (by rfl) T.b_int (by decide +kernel) (pa_cons (pe_cmpR op_eq (C8.pe_c c__law_at hr (by decide) (by rfl) (pa_cons (pv 1) (pa_cons pe_int (pa_cons pe_int pa_nil)))) pe_int (nomark _)) pa_nil)) (fun _ _ => rfl)) pa_nil))))))
      (pss_cons (ps_set (i := 3) nd rfl (.inl rfl) (pe_callTy call_list_of (by rfl) T.b_list (by decide +kernel) (pa_cons (pv 2) pa_nil)))
      (pss_cons (ps_set (i := 4) nd rfl (.inl rfl) (C8.pe_c c_write_house hr (by decide) (by rfl) (pa_cons (pv 2) pa_nil)))
      (pss_cons (ps_if (PW.pt (pw_or (pt_not (pt_val (pe_callB call_isi (by rfl) T.b_isinstance (by decide +kernel) (pa_cons (pv 4) (pa_cons (pe_bltn (v := .ty "str") (by rfl) T.b_str (by decide +kernel) rfl) pa_nil))))) (pw_or1 (pt_cmpR op_ne (pv 4) (pe_join pe_str (pe_lc (own := [("number", 8), ("word", 9)]) (g := (gTup K 2 (gCons (gName 8) (gCons (gName 9) gNil)))) rfl nd (pi_list (pv 3)) (blkOk_by (own := [("number", 8), ("word", 9)]) (N := ["script", "draws", "house", "kept", "text", "back", "pair", "other", "number", "word"]) (sc := defScope s_law) (by decide +kernel)) (fun _ _ _ _ _ => (pg_tup rfl (pgs_cons (pg_name (i := 8) nd rfl (.inl rfl)) (pgs_cons (pg_name (i := 9) nd rfl (.inl rfl)) pgs_nil)))) (fun _ _ _ _ _ => pts_nil) (fun _ _ _ _ _ => (pe_op op_add_str (pe_op op_add_str (pe_op op_add_str (pe_callTy call_str_int (by rfl) T.b_str (by decide +kernel) (pa_cons (pv 8) pa_nil)) pe_str) (pv 9)) pe_str)))) (nomark _)))))
        (pss_one (ps_ret pe_bl))
        pss_nil)
      (pss_cons (ps_set (i := 5) nd rfl (.inl rfl) (pe_cx c_read_house hr (by decide) (fun σ => passAt takes0 σ) (by rfl) (pa_cons (pv 4) pa_nil)))
      (pss_cons (ps_if (PW.pt (pw_or (pt_not (pt_val (pe_callB call_isi (by rfl) T.b_isinstance (by decide +kernel) (pa_cons (pv 5) (pa_cons (pe_bltn (v := .ty "list") (by rfl) T.b_list (by decide +kernel) rfl) pa_nil))))) (pw_or (pt_cmpR (op_neD hr.units) (pv 5) (pv 3) (nomark _)) (pw_or1 (pt_cmpR (op_neD hr.units) (pv 2) (pv 3) (nomark _))))))
        (pss_one (ps_ret pe_bl))
        pss_nil)
      (pss_cons (ps_for PassesOwn.never rfl (pi_list (pv 5)) (pg_name (i := 6) nd rfl (.inl rfl))
        (pss_one (ps_if (pt_not (pt_val (pe_callB call_isi (by rfl) T.b_isinstance (by decide +kernel) (pa_cons (pv 6) (pa_cons (pe_bltn (v := .ty "tuple") (by rfl) T.b_tuple (by decide +kernel) rfl) pa_nil)))))
            (pss_one (ps_ret pe_bl))
            pss_nil)))
      (pss_cons (ps_set (i := 7) nd rfl (.inl rfl) (C8.pe_c c__law_spoilt hr (by decide) (by rfl) (pa_cons (pv 1) (pa_cons (pv 4) pa_nil))))
      (pss_one (ps_ret (pe_and (pe_cmpR (op_eqD hr.units) (C8.pe_c c__law_told hr (by decide) (by rfl) (pa_cons (pv 7) pa_nil)) (C8.pe_c c__law_read hr (by decide) (by rfl) (pa_cons (pv 7) pa_nil)) (nomark _)) (pe_one (pe_cmpR (op_eqD hr.units) (pe_cx c_read_house hr (by decide) (fun σ => passAt takes0 σ) (by rfl) (pa_cons pe_str pa_nil)) (pe_lst pa_nil) (nomark _))))))))))))))), ?_⟩
    have sz : 2 ≤ sizeLine := by decide
    -- draws
    refine ⟨_, rfl, a, ns, rfl, hS, hl, fun dr ds H1 s1 nd1 at1 hD => ?_⟩
    have hS1 : SqL K H1 dr (ds.map V.int) := .inl (.inl at1)
    -- house
    refine ⟨_, rfl, sz, fun l nl => ?_⟩
    have s2 := same_new (o := .lst [.int 12, .int 40]) nl
    refine ⟨_, rfl, dr, ds, 12, 8, rfl, s2.seq hS1, hD, by omega, by omega, by omega, fun r _ _ => ?_⟩
    refine ⟨rfl, .inr ⟨_, rfl, ?_⟩⟩
    obtain ⟨most, hm, ho⟩ : ∃ m : Nat, m ≤ 40 ∧ atI [V.int 12, V.int 40] (if decide (V.int r = V.int 3) = true then 1 else 0) = some (.int m) := by
      by_cases c : decide (V.int r = V.int 3) = true
      · rw [if_pos c]
        exact ⟨40, by decide, atI_nat (j := 1) rfl⟩
      · rw [if_neg c]
        exact ⟨12, by decide, atI_nat (j := 0) rfl⟩
    refine ⟨l, _, _, _, rfl, rfl, .inl (.inl upd_same), ho, dr, ds, 14, 8, most, rfl, s2.seq hS1, hD, by omega, by omega, by omega, hm, fun hp L H2 s3 nh at2 hpr hlen hh0 => ?_⟩
    have hh : IsHs 40 (L.map (·.2)) := ⟨hh0.asc, hh0.num, fun x hx => ⟨(hh0.txt x hx).1, Nat.le_trans (hh0.txt x hx).2 hm⟩⟩
    have rl := refs_len L
    have hA2 : HsAt K H2 hp L := ⟨.inl (.inl at2), hpr⟩
    have hS2 : SqL K H2 dr (ds.map V.int) := (s2.trans s3).seq hS1
    -- kept
    refine ⟨_, rfl, hp, _, rfl, .inl hA2.1, fun kp nk => ?_⟩
    have s4 := same_new (o := .lst (refs L)) nk
    generalize e0 : upd H2 kp (.lst (refs L)) = H0 at s4 ⊢
    have hA0 : HsAt K H0 hp L := hA2.same s4
    have hK0 : HsAt K H0 kp L := ⟨.inl (.inl (by rw [← e0]; exact upd_same)), hpr.same s4⟩
    have hS0 : SqL K H0 dr (ds.map V.int) := s4.seq hS2
    have lets := hh.letAll
    have back := rdT_wr hh (by rw [List.length_map]; exact hlen)
    have wl := wr_len hh (by rw [List.length_map]; exact hlen)
    have wok : OkS (wrT (L.map (·.2))) := by
      refine ok_join (show ∀ c ∈ TL.tl ("" : Str), c < 1114112 by decide) fun x hx => ?_
      obtain ⟨p, hp, rfl⟩ := List.mem_map.mp hx
      intro c hc
      have hn := hh.num p hp
      have m : c ∈ TL.numL p.1.toNat ++ (58 :: TL.tl p.2) ++ [10] := hc
      have : c ∈ TL.numL p.1.toNat → c < 1114112 := fun m => by
        by_cases c : p.1.toNat < 10
        · rw [TL.numL_lt c] at m
          simp at m
          omega
        · rw [TL.numL_step (by omega), TL.numL_lt (by omega)] at m
          simp at m
          omega
      rcases List.mem_append.mp m with m | m
      · rcases List.mem_append.mp m with m | m
        · exact this m
        · rcases List.mem_cons.mp m with m | m
          · omega
          · exact ok_let (hh.txt p hp).1 c m
      · simp at m
        omega
    obtain ⟨j1, j2⟩ := wr_join hh hlen
    -- its text
    refine ⟨_, rfl, hp, L, rfl, hA0, hlen, hh, fun H3 s5 => ?_⟩
    generalize wrT (L.map (·.2)) = text at back wl wok j2 ⊢
    have s05 := s5
    -- it is a text, the right one
    refine ⟨_, rfl, _, _, _, _, _, rfl, .ty _, .base (.str _), kit_ty (b := "str") (r := true) (by decide +kernel), _, rfl, iteF ?_⟩
    refine ⟨_, rfl, ⟨_, rfl⟩, _, rfl, kp, rfl, ⟨_, s5.seq hK0.1⟩, fun D nD => ?_⟩
    refine lc_w (walk_list (xs := refs L)) nD (by rw [rl]; omega) (fun H' e => (s5.trans e).seq hK0.1) (fun i acc _ => acc = ((L.take i).map fun q => SX.S (lnL q.2)).map V.str) (fun _ _ => rfl) (fun _ _ _ _ _ _ _ r => r) (fun i H x H' y => by rw [y.1]; exact Same.refl _)
      (fun i x acc H1 H2 Qn Qf hi sm y r at_ kn kf => ?_) (fun acc H4 s6 at_ _ r => ?_)
    · obtain ⟨rfl, hx⟩ := y
      obtain ⟨t, ht, tm, rfl⟩ := refs_get hx
      have hn := hh.num t.2 (List.mem_map_of_mem tm)
      have ll := lnL_len hh (List.mem_map_of_mem tm)
      refine ⟨_, _, rfl, same_tup (s5.trans sm) (hA0.2 t tm), rfl, _, _, rfl, _, _, rfl, rfl, rfl, ?_⟩
      have lg : t.2.1.natAbs.log2 < 1920 := by
        obtain ⟨m, em⟩ : ∃ m : Nat, t.2.1 = m := ⟨t.2.1.toNat, by omega⟩
        rw [em]
        exact log_small (by omega)
      have full := ln_a (z := t.2.2) hn.1
      have lfull : ((toString t.2.1 : Str) ++ (":" : Str) ++ t.2.2 ++ ("\n" : Str)).length ≤ 44 := by rw [full, SX.S_len]; exact ll
      rw [len_app, len_app, len_app] at lfull
      have le : ∀ {n : Nat}, n ≤ 44 → n ≤ sizeLine := fun h => Nat.le_trans h (by decide)
      refine ⟨_, rfl, _, rfl, lg, _, _, rfl, rfl, le (by omega), _, rfl, _, _, rfl, rfl, le (by rw [len_app]; omega), _, _, rfl, rfl, le (by rw [len_app, len_app]; omega), kn _ _ (Same.refl _) ?_⟩
      rw [r, List.take_add_one, ht, List.map_append, List.map_append, full]
      rfl
    rw [List.take_of_length_le (by rw [rl]; exact Nat.le_refl _)] at r
    refine ⟨"", D, L.map fun q => SX.S (lnL q.2), rfl, rfl, .inl (.inl (.inl (by rw [at_, r]))), j1, ?_⟩
    rw [j2]
    refine ⟨rfl, _, rfl, iteNS rfl ?_⟩
    -- read back
    have s06 := s5.trans s6
    refine ⟨_, rfl, text, rfl, by omega, fun h eh => ?_, fun t k et => ?_⟩
    rotate_left
    · rw [back] at et
      cases et
    intro bp L2 H5 s7 nb atb psb hL2
    have eh2 : h = L.map (·.2) := by
      rw [back] at eh
      injection eh with e
      exact e.symm
    rw [eh2] at hL2
    have s07 := s06.trans s7
    have hB : HsAt K H5 bp L2 := ⟨.inl (.inl atb), fun x hx => .inl (.inl (psb x hx))⟩
    refine ⟨_, rfl, _, _, _, _, _, rfl, .ty _, .base (.lst atb), kit_ty (b := "list") (r := true) (by decide +kernel), _, rfl, iteF ?_⟩
    have db := dp_house hB
    rw [hL2] at db
    refine ⟨_, rfl, _, rfl, _, _, db, dp_house (hK0.same s07), dH_shaped lets, dH_shaped lets, ?_⟩
    rw [dH_refl lets]
    refine ⟨_, rfl, iteF ?_⟩
    refine ⟨_, rfl, _, rfl, _, _, dp_house (hA0.same s07), dp_house (hK0.same s07), dH_shaped lets, dH_shaped lets, ?_⟩
    rw [dH_refl lets]
    refine ⟨_, rfl, iteF ?_⟩
    -- its pairs
    refine ⟨_, rfl, bp, rfl, ⟨_, hB.1⟩, ?_⟩
    refine for_list (K := K) (a := bp) (xs := refs L2) (fun i σ H' => ∃ (y6 : Option V), σ = [some (.ref a), some (.ref dr), some (.ref hp), some (.ref kp), some (.str text), some (.ref bp), y6, none, none, none] ∧ H' = H5)
      ⟨none, rfl, rfl⟩ (fun i σ H' _ hW => ?_) (fun i x σ H' hx hW => ?_) (fun σ H' hW => ?_)
    · obtain ⟨y6, rfl, rfl⟩ := hW
      exact hB.1
    · obtain ⟨y6, rfl, rfl⟩ := hW
      obtain ⟨t, ht, tm, rfl⟩ := refs_get hx
      exact ⟨_, rfl, _, _, _, _, _, rfl, .ty _, .base (.tup (psb t tm)), kit_ty (b := "tuple") (r := true) (by decide +kernel), _, rfl, iteF ⟨_, rfl, rfl⟩⟩
    · obtain ⟨y6, rfl, rfl⟩ := hW
      -- another text
      refine ⟨_, rfl, _, rfl, dr, ds, text, rfl, s07.seq hS0, hD, ⟨by omega, wok⟩, fun other H6 s8 ro => ?_⟩
      refine ⟨_, rfl, other, rfl, ro.1, fun v H7 s9 d1 => ?_⟩
      refine ⟨_, rfl, other, rfl, ro.1, fun v2 H8 s10 d2 => ?_⟩
      obtain ⟨sh, ev⟩ := told_ok ro.2
      have d1' : Due K H8 v (toldOf (rdT other)) := by
        obtain ⟨t, x, rfl, e, d⟩ := d1
        exact ⟨t, x, rfl, s10 _ _ e, dp_same s10 d⟩
      refine ⟨_, _, due_dT d1', due_dT d2, sh, sh, ?_⟩
      rw [ev]
      refine ⟨_, rfl, "", rfl, by decide, fun h eh => ?_, fun t k et => ?_⟩
      rotate_left
      · have e0 : rdT "" = .inl [] := rdT_wr (h := []) ⟨List.Pairwise.nil, (fun q hq => nomatch hq), (fun q hq => nomatch hq)⟩ (by decide)
        rw [e0] at et
        cases et
      intro cp L3 H9 s11 nc atc psc hL3
      have e0 : rdT "" = .inl [] := rdT_wr (h := []) ⟨List.Pairwise.nil, (fun q hq => nomatch hq), (fun q hq => nomatch hq)⟩ (by decide)
      have eh2 : h = [] := by
        rw [e0] at eh
        injection eh with e
        exact e.symm
      rw [eh2] at hL3
      refine ⟨Nat.zero_le _, fun np nn => ?_⟩
      have s12 := same_new (o := .lst []) nn
      have hC : HsAt K (upd H9 np (.lst [])) cp L3 := ⟨.inl (.inl (s12 _ _ atc)), fun x hx => .inl (.inl (s12 _ _ (psc x hx)))⟩
      have db := dp_house hC
      rw [hL3] at db
      refine ⟨_, _, db, .lst (.inl (.inl upd_same)) .nil, by decide +kernel, by decide +kernel, ?_⟩
      have : PyData.eqv (dH []) (.list []) = true := by decide +kernel
      rw [this]
      exact q _
end

end SH
set_option Elab.async false
set_option linter.all false
set_option maxRecDepth 100000
set_option maxHeartbeats 4000000
namespace SH
open PySem PySem.Spec PyProof.Rows L2
theorem law_all {P : Program} {w : World} {K : PySem.W.Frag} {mg : Str → Option Value} {base : Heap} {ea : Ea} {f : Addr} {fd : FuncData} (T : Txt K mg ea) (F : Fun K "law" "law" s_law f fd) : FnOk P w K mg base CX0 6 f fd ["script"] (spLaw K) :=
  have mix := ok__law_mix (P := P) (w := w) (base := base) T
  have at_ := ok__law_at (P := P) (w := w) (base := base) T
  have text := ok__law_text T mix (ok__law_letter T)
  have rd := ok_read_house (P := P) (w := w) (base := base) T (ok__read_line T (ok__number_of T))
  ok_law T F (ok__law_draws T) at_ (ok__law_house T mix text) (ok_write_house T) rd (ok__law_spoilt T at_) (ok__law_told T rd) (ok__law_read T (ok__law_number T))
theorem all_mk {P : Program} {w : World} {K : PySem.W.Frag} {h : Heap} {mg : Str → Option Value} {fa : Addr} (X : K.In h) (G : h.Ns mainGlobals mg) (hfa : mg "law" = some (.ref fa))
    {t__MOST_LETTERS : Tok}
    {t__MOST_TEXTS : Tok}
    {f_write_house f_read_house f__read_line f__number_of f__law_draws f__law_at f__law_mix f__law_letter f__law_text f__law_house f__law_spoilt f__law_number f__law_read f__law_told f_law : Addr}
    {od_write_house an_write_house od_read_house an_read_house od__read_line an__read_line od__number_of an__number_of od__law_draws an__law_draws od__law_at an__law_at od__law_mix an__law_mix od__law_letter an__law_letter od__law_text an__law_text od__law_house an__law_house od__law_spoilt an__law_spoilt od__law_number an__law_number od__law_read an__law_read od__law_told an__law_told od_law an_law : Option Addr}
    {sl_write_house sl_read_house sl__read_line sl__number_of sl__law_draws sl__law_at sl__law_mix sl__law_letter sl__law_text sl__law_house sl__law_spoilt sl__law_number sl__law_read sl__law_told sl_law : Array (Option Value)}
    {oc_write_house kV_write_house dc_write_house pm_write_house cd_write_house ct_write_house oc_read_house kV_read_house dc_read_house pm_read_house cd_read_house ct_read_house oc__read_line kV__read_line dc__read_line pm__read_line cd__read_line ct__read_line oc__number_of kV__number_of dc__number_of pm__number_of cd__number_of ct__number_of oc__law_draws kV__law_draws dc__law_draws pm__law_draws cd__law_draws ct__law_draws oc__law_at kV__law_at dc__law_at pm__law_at cd__law_at ct__law_at oc__law_mix kV__law_mix dc__law_mix pm__law_mix cd__law_mix ct__law_mix oc__law_letter kV__law_letter dc__law_letter pm__law_letter cd__law_letter ct__law_letter oc__law_text kV__law_text dc__law_text pm__law_text cd__law_text ct__law_text oc__law_house kV__law_house dc__law_house pm__law_house cd__law_house ct__law_house oc__law_spoilt kV__law_spoilt dc__law_spoilt pm__law_spoilt cd__law_spoilt ct__law_spoilt oc__law_number kV__law_number dc__law_number pm__law_number cd__law_number ct__law_number oc__law_read kV__law_read dc__law_read pm__law_read cd__law_read ct__law_read oc__law_told kV__law_told dc__law_told pm__law_told cd__law_told ct__law_told oc_law kV_law dc_law pm_law cd_law ct_law : Value}
    {fI : Addr} {odI anI : Option Addr} {slI : Array (Option Value)} {ocI kVI dcI pmI cdI ctI : Value}
    {C_HouseError N_HouseError C_BadLine N_BadLine C_BadText N_BadText C_WrongOrder N_WrongOrder C_TooMany N_TooMany : Addr}
    {nm_HouseError q_HouseError : Str} {bs_HouseError : List Value} {sn_HouseError : List Str} {sub_HouseError : List Value} {ab_HouseError : Bool} {col_HouseError : Option Bool} {dd_HouseError : Option Addr} {m0_HouseError m1_HouseError m2_HouseError m3_HouseError m5_HouseError : Option Value}
    {nm_BadLine q_BadLine : Str} {bs_BadLine : List Value} {sn_BadLine : List Str} {sub_BadLine : List Value} {ab_BadLine : Bool} {col_BadLine : Option Bool} {dd_BadLine : Option Addr} {m0_BadLine m1_BadLine m2_BadLine m3_BadLine m5_BadLine : Option Value}
    {nm_BadText q_BadText : Str} {bs_BadText : List Value} {sn_BadText : List Str} {sub_BadText : List Value} {ab_BadText : Bool} {col_BadText : Option Bool} {dd_BadText : Option Addr} {m0_BadText m1_BadText m2_BadText m3_BadText m5_BadText : Option Value}
    {nm_WrongOrder q_WrongOrder : Str} {bs_WrongOrder : List Value} {sn_WrongOrder : List Str} {sub_WrongOrder : List Value} {ab_WrongOrder : Bool} {col_WrongOrder : Option Bool} {dd_WrongOrder : Option Addr} {m0_WrongOrder m1_WrongOrder m2_WrongOrder m3_WrongOrder m5_WrongOrder : Option Value}
    {nm_TooMany q_TooMany : Str} {bs_TooMany : List Value} {sn_TooMany : List Str} {sub_TooMany : List Value} {ab_TooMany : Bool} {col_TooMany : Option Bool} {dd_TooMany : Option Addr} {m0_TooMany m1_TooMany m2_TooMany m3_TooMany m5_TooMany : Option Value}
    (z_abs : PySem.W.nsIn K mainGlobals "abs" = some none)
    (z_bool : PySem.W.nsIn K mainGlobals "bool" = some none)
    (z_enumerate : PySem.W.nsIn K mainGlobals "enumerate" = some none)
    (z_int : PySem.W.nsIn K mainGlobals "int" = some none)
    (z_isinstance : PySem.W.nsIn K mainGlobals "isinstance" = some none)
    (z_len : PySem.W.nsIn K mainGlobals "len" = some none)
    (z_list : PySem.W.nsIn K mainGlobals "list" = some none)
    (z_max : PySem.W.nsIn K mainGlobals "max" = some none)
    (z_min : PySem.W.nsIn K mainGlobals "min" = some none)
    (z_range : PySem.W.nsIn K mainGlobals "range" = some none)
    (z_str : PySem.W.nsIn K mainGlobals "str" = some none)
    (z_tuple : PySem.W.nsIn K mainGlobals "tuple" = some none)
    (n__MOST_LETTERS : PySem.W.nsIn K mainGlobals "_MOST_LETTERS" = some (some (.int 40 t__MOST_LETTERS)))
    (n__MOST_TEXTS : PySem.W.nsIn K mainGlobals "_MOST_TEXTS" = some (some (.int 8 t__MOST_TEXTS)))
    (a_write_house : PySem.W.nsIn K mainGlobals "write_house" = some (some (.ref f_write_house)))
    (l_write_house : K.lookup f_write_house = some ⟨oc_write_house, od_write_house, .func (PySem.W.fnOf "write_house" "write_house" (defArgs s_write_house) (defBody s_write_house) (defScope s_write_house) .none kV_write_house dc_write_house pm_write_house an_write_house cd_write_house ct_write_house), sl_write_house⟩)
    (c_write_house : PySem.W.codeIn K cd_write_house "write_house" = true)
    (k_write_house : PySem.W.keepIn K (.ref f_write_house) = true)
    (a_read_house : PySem.W.nsIn K mainGlobals "read_house" = some (some (.ref f_read_house)))
    (l_read_house : K.lookup f_read_house = some ⟨oc_read_house, od_read_house, .func (PySem.W.fnOf "read_house" "read_house" (defArgs s_read_house) (defBody s_read_house) (defScope s_read_house) .none kV_read_house dc_read_house pm_read_house an_read_house cd_read_house ct_read_house), sl_read_house⟩)
    (c_read_house : PySem.W.codeIn K cd_read_house "read_house" = true)
    (k_read_house : PySem.W.keepIn K (.ref f_read_house) = true)
    (a__read_line : PySem.W.nsIn K mainGlobals "_read_line" = some (some (.ref f__read_line)))
    (l__read_line : K.lookup f__read_line = some ⟨oc__read_line, od__read_line, .func (PySem.W.fnOf "_read_line" "_read_line" (defArgs s__read_line) (defBody s__read_line) (defScope s__read_line) .none kV__read_line dc__read_line pm__read_line an__read_line cd__read_line ct__read_line), sl__read_line⟩)
    (c__read_line : PySem.W.codeIn K cd__read_line "_read_line" = true)
    (k__read_line : PySem.W.keepIn K (.ref f__read_line) = true)
    (a__number_of : PySem.W.nsIn K mainGlobals "_number_of" = some (some (.ref f__number_of)))
    (l__number_of : K.lookup f__number_of = some ⟨oc__number_of, od__number_of, .func (PySem.W.fnOf "_number_of" "_number_of" (defArgs s__number_of) (defBody s__number_of) (defScope s__number_of) .none kV__number_of dc__number_of pm__number_of an__number_of cd__number_of ct__number_of), sl__number_of⟩)
    (c__number_of : PySem.W.codeIn K cd__number_of "_number_of" = true)
    (k__number_of : PySem.W.keepIn K (.ref f__number_of) = true)
    (a__law_draws : PySem.W.nsIn K mainGlobals "_law_draws" = some (some (.ref f__law_draws)))
    (l__law_draws : K.lookup f__law_draws = some ⟨oc__law_draws, od__law_draws, .func (PySem.W.fnOf "_law_draws" "_law_draws" (defArgs s__law_draws) (defBody s__law_draws) (defScope s__law_draws) .none kV__law_draws dc__law_draws pm__law_draws an__law_draws cd__law_draws ct__law_draws), sl__law_draws⟩)
    (c__law_draws : PySem.W.codeIn K cd__law_draws "_law_draws" = true)
    (k__law_draws : PySem.W.keepIn K (.ref f__law_draws) = true)
    (a__law_at : PySem.W.nsIn K mainGlobals "_law_at" = some (some (.ref f__law_at)))
    (l__law_at : K.lookup f__law_at = some ⟨oc__law_at, od__law_at, .func (PySem.W.fnOf "_law_at" "_law_at" (defArgs s__law_at) (defBody s__law_at) (defScope s__law_at) .none kV__law_at dc__law_at pm__law_at an__law_at cd__law_at ct__law_at), sl__law_at⟩)
    (c__law_at : PySem.W.codeIn K cd__law_at "_law_at" = true)
    (k__law_at : PySem.W.keepIn K (.ref f__law_at) = true)
    (a__law_mix : PySem.W.nsIn K mainGlobals "_law_mix" = some (some (.ref f__law_mix)))
    (l__law_mix : K.lookup f__law_mix = some ⟨oc__law_mix, od__law_mix, .func (PySem.W.fnOf "_law_mix" "_law_mix" (defArgs s__law_mix) (defBody s__law_mix) (defScope s__law_mix) .none kV__law_mix dc__law_mix pm__law_mix an__law_mix cd__law_mix ct__law_mix), sl__law_mix⟩)
    (c__law_mix : PySem.W.codeIn K cd__law_mix "_law_mix" = true)
    (k__law_mix : PySem.W.keepIn K (.ref f__law_mix) = true)
    (a__law_letter : PySem.W.nsIn K mainGlobals "_law_letter" = some (some (.ref f__law_letter)))
    (l__law_letter : K.lookup f__law_letter = some ⟨oc__law_letter, od__law_letter, .func (PySem.W.fnOf "_law_letter" "_law_letter" (defArgs s__law_letter) (defBody s__law_letter) (defScope s__law_letter) .none kV__law_letter dc__law_letter pm__law_letter an__law_letter cd__law_letter ct__law_letter), sl__law_letter⟩)
    (c__law_letter : PySem.W.codeIn K cd__law_letter "_law_letter" = true)
    (k__law_letter : PySem.W.keepIn K (.ref f__law_letter) = true)
    (a__law_text : PySem.W.nsIn K mainGlobals "_law_text" = some (some (.ref f__law_text)))
    (l__law_text : K.lookup f__law_text = some ⟨oc__law_text, od__law_text, .func (PySem.W.fnOf "_law_text" "_law_text" (defArgs s__law_text) (defBody s__law_text) (defScope s__law_text) .none kV__law_text dc__law_text pm__law_text an__law_text cd__law_text ct__law_text), sl__law_text⟩)
    (c__law_text : PySem.W.codeIn K cd__law_text "_law_text" = true)
    (k__law_text : PySem.W.keepIn K (.ref f__law_text) = true)
    (a__law_house : PySem.W.nsIn K mainGlobals "_law_house" = some (some (.ref f__law_house)))
    (l__law_house : K.lookup f__law_house = some ⟨oc__law_house, od__law_house, .func (PySem.W.fnOf "_law_house" "_law_house" (defArgs s__law_house) (defBody s__law_house) (defScope s__law_house) .none kV__law_house dc__law_house pm__law_house an__law_house cd__law_house ct__law_house), sl__law_house⟩)
    (c__law_house : PySem.W.codeIn K cd__law_house "_law_house" = true)
    (k__law_house : PySem.W.keepIn K (.ref f__law_house) = true)
    (a__law_spoilt : PySem.W.nsIn K mainGlobals "_law_spoilt" = some (some (.ref f__law_spoilt)))
    (l__law_spoilt : K.lookup f__law_spoilt = some ⟨oc__law_spoilt, od__law_spoilt, .func (PySem.W.fnOf "_law_spoilt" "_law_spoilt" (defArgs s__law_spoilt) (defBody s__law_spoilt) (defScope s__law_spoilt) .none kV__law_spoilt dc__law_spoilt pm__law_spoilt an__law_spoilt cd__law_spoilt ct__law_spoilt), sl__law_spoilt⟩)
    (c__law_spoilt : PySem.W.codeIn K cd__law_spoilt "_law_spoilt" = true)
    (k__law_spoilt : PySem.W.keepIn K (.ref f__law_spoilt) = true)
    (a__law_number : PySem.W.nsIn K mainGlobals "_law_number" = some (some (.ref f__law_number)))
    (l__law_number : K.lookup f__law_number = some ⟨oc__law_number, od__law_number, .func (PySem.W.fnOf "_law_number" "_law_number" (defArgs s__law_number) (defBody s__law_number) (defScope s__law_number) .none kV__law_number dc__law_number pm__law_number an__law_number cd__law_number ct__law_number), sl__law_number⟩)
    (c__law_number : PySem.W.codeIn K cd__law_number "_law_number" = true)
    (k__law_number : PySem.W.keepIn K (.ref f__law_number) = true)
    (a__law_read : PySem.W.nsIn K mainGlobals "_law_read" = some (some (.ref f__law_read)))
    (l__law_read : K.lookup f__law_read = some ⟨oc__law_read, od__law_read, .func (PySem.W.fnOf "_law_read" "_law_read" (defArgs s__law_read) (defBody s__law_read) (defScope s__law_read) .none kV__law_read dc__law_read pm__law_read an__law_read cd__law_read ct__law_read), sl__law_read⟩)
    (c__law_read : PySem.W.codeIn K cd__law_read "_law_read" = true)
    (k__law_read : PySem.W.keepIn K (.ref f__law_read) = true)
    (a__law_told : PySem.W.nsIn K mainGlobals "_law_told" = some (some (.ref f__law_told)))
    (l__law_told : K.lookup f__law_told = some ⟨oc__law_told, od__law_told, .func (PySem.W.fnOf "_law_told" "_law_told" (defArgs s__law_told) (defBody s__law_told) (defScope s__law_told) .none kV__law_told dc__law_told pm__law_told an__law_told cd__law_told ct__law_told), sl__law_told⟩)
    (c__law_told : PySem.W.codeIn K cd__law_told "_law_told" = true)
    (k__law_told : PySem.W.keepIn K (.ref f__law_told) = true)
    (a_law : PySem.W.nsIn K mainGlobals "law" = some (some (.ref f_law)))
    (l_law : K.lookup f_law = some ⟨oc_law, od_law, .func (PySem.W.fnOf "law" "law" (defArgs s_law) (defBody s_law) (defScope s_law) .none kV_law dc_law pm_law an_law cd_law ct_law), sl_law⟩)
    (c_law : PySem.W.codeIn K cd_law "law" = true)
    (k_law : PySem.W.keepIn K (.ref f_law) = true)
    (xg_HouseError : PySem.W.nsIn K mainGlobals "HouseError" = some (some (.ref C_HouseError)))
    (xx_HouseError : K.lookup C_HouseError = some (excClassObj nm_HouseError q_HouseError C_HouseError N_HouseError bs_HouseError [.type "ValueError", .type "Exception", .type "BaseException", .type "object"] true sn_HouseError sub_HouseError ab_HouseError col_HouseError dd_HouseError m0_HouseError m1_HouseError m2_HouseError m3_HouseError m5_HouseError "ValueError.__new__"))
    (xs_HouseError : PySem.W.findIn K (.ref C_HouseError) "__setattr__" = some (some (.builtin "object.__setattr__")))
    (xga_HouseError : PySem.W.findIn K (.ref C_HouseError) "__getattribute__" = some (some (.builtin "BaseException.__getattribute__")))
    (xgg_HouseError : PySem.W.findIn K (.ref C_HouseError) "__getattr__" = some none)
    (xat_HouseError : PySem.W.findIn K (.ref C_HouseError) "at" = some none)
    (xi_HouseError : PySem.W.findIn K (.ref C_HouseError) "__init__" = some (some (.ref fI)))
    (xb_HouseError : PySem.W.subIn K (.ref C_HouseError) (.type "BaseException") = some true)
    (xt_HouseError : PySem.W.typeIn K (.ref C_HouseError) = some (.type "type"))
    (xh_HouseError : PySem.W.hasDictIn K C_HouseError = true)
    (xk_HouseError : PySem.W.keepIn K (.ref C_HouseError) = true)
    (xis_HouseError : PySem.W.isClsIn K C_HouseError = true)
    (xg_BadLine : PySem.W.nsIn K mainGlobals "BadLine" = some (some (.ref C_BadLine)))
    (xx_BadLine : K.lookup C_BadLine = some (excClassObj nm_BadLine q_BadLine C_BadLine N_BadLine bs_BadLine (.ref C_HouseError :: [.type "ValueError", .type "Exception", .type "BaseException", .type "object"]) true sn_BadLine sub_BadLine ab_BadLine col_BadLine dd_BadLine m0_BadLine m1_BadLine m2_BadLine m3_BadLine m5_BadLine "ValueError.__new__"))
    (xs_BadLine : PySem.W.findIn K (.ref C_BadLine) "__setattr__" = some (some (.builtin "object.__setattr__")))
    (xga_BadLine : PySem.W.findIn K (.ref C_BadLine) "__getattribute__" = some (some (.builtin "BaseException.__getattribute__")))
    (xgg_BadLine : PySem.W.findIn K (.ref C_BadLine) "__getattr__" = some none)
    (xat_BadLine : PySem.W.findIn K (.ref C_BadLine) "at" = some none)
    (xi_BadLine : PySem.W.findIn K (.ref C_BadLine) "__init__" = some (some (.ref fI)))
    (xb_BadLine : PySem.W.subIn K (.ref C_BadLine) (.type "BaseException") = some true)
    (xt_BadLine : PySem.W.typeIn K (.ref C_BadLine) = some (.type "type"))
    (xh_BadLine : PySem.W.hasDictIn K C_BadLine = true)
    (xk_BadLine : PySem.W.keepIn K (.ref C_BadLine) = true)
    (xis_BadLine : PySem.W.isClsIn K C_BadLine = true)
    (xg_BadText : PySem.W.nsIn K mainGlobals "BadText" = some (some (.ref C_BadText)))
    (xx_BadText : K.lookup C_BadText = some (excClassObj nm_BadText q_BadText C_BadText N_BadText bs_BadText (.ref C_HouseError :: [.type "ValueError", .type "Exception", .type "BaseException", .type "object"]) true sn_BadText sub_BadText ab_BadText col_BadText dd_BadText m0_BadText m1_BadText m2_BadText m3_BadText m5_BadText "ValueError.__new__"))
    (xs_BadText : PySem.W.findIn K (.ref C_BadText) "__setattr__" = some (some (.builtin "object.__setattr__")))
    (xga_BadText : PySem.W.findIn K (.ref C_BadText) "__getattribute__" = some (some (.builtin "BaseException.__getattribute__")))
    (xgg_BadText : PySem.W.findIn K (.ref C_BadText) "__getattr__" = some none)
    (xat_BadText : PySem.W.findIn K (.ref C_BadText) "at" = some none)
    (xi_BadText : PySem.W.findIn K (.ref C_BadText) "__init__" = some (some (.ref fI)))
    (xb_BadText : PySem.W.subIn K (.ref C_BadText) (.type "BaseException") = some true)
    (xt_BadText : PySem.W.typeIn K (.ref C_BadText) = some (.type "type"))
    (xh_BadText : PySem.W.hasDictIn K C_BadText = true)
    (xk_BadText : PySem.W.keepIn K (.ref C_BadText) = true)
    (xis_BadText : PySem.W.isClsIn K C_BadText = true)
    (xg_WrongOrder : PySem.W.nsIn K mainGlobals "WrongOrder" = some (some (.ref C_WrongOrder)))
    (xx_WrongOrder : K.lookup C_WrongOrder = some (excClassObj nm_WrongOrder q_WrongOrder C_WrongOrder N_WrongOrder bs_WrongOrder (.ref C_HouseError :: [.type "ValueError", .type "Exception", .type "BaseException", .type "object"]) true sn_WrongOrder sub_WrongOrder ab_WrongOrder col_WrongOrder dd_WrongOrder m0_WrongOrder m1_WrongOrder m2_WrongOrder m3_WrongOrder m5_WrongOrder "ValueError.__new__"))
    (xs_WrongOrder : PySem.W.findIn K (.ref C_WrongOrder) "__setattr__" = some (some (.builtin "object.__setattr__")))
    (xga_WrongOrder : PySem.W.findIn K (.ref C_WrongOrder) "__getattribute__" = some (some (.builtin "BaseException.__getattribute__")))
    (xgg_WrongOrder : PySem.W.findIn K (.ref C_WrongOrder) "__getattr__" = some none)
    (xat_WrongOrder : PySem.W.findIn K (.ref C_WrongOrder) "at" = some none)
    (xi_WrongOrder : PySem.W.findIn K (.ref C_WrongOrder) "__init__" = some (some (.ref fI)))
    (xb_WrongOrder : PySem.W.subIn K (.ref C_WrongOrder) (.type "BaseException") = some true)
    (xt_WrongOrder : PySem.W.typeIn K (.ref C_WrongOrder) = some (.type "type"))
    (xh_WrongOrder : PySem.W.hasDictIn K C_WrongOrder = true)
    (xk_WrongOrder : PySem.W.keepIn K (.ref C_WrongOrder) = true)
    (xis_WrongOrder : PySem.W.isClsIn K C_WrongOrder = true)
    (xg_TooMany : PySem.W.nsIn K mainGlobals "TooMany" = some (some (.ref C_TooMany)))
    (xx_TooMany : K.lookup C_TooMany = some (excClassObj nm_TooMany q_TooMany C_TooMany N_TooMany bs_TooMany (.ref C_HouseError :: [.type "ValueError", .type "Exception", .type "BaseException", .type "object"]) true sn_TooMany sub_TooMany ab_TooMany col_TooMany dd_TooMany m0_TooMany m1_TooMany m2_TooMany m3_TooMany m5_TooMany "ValueError.__new__"))
    (xs_TooMany : PySem.W.findIn K (.ref C_TooMany) "__setattr__" = some (some (.builtin "object.__setattr__")))
    (xga_TooMany : PySem.W.findIn K (.ref C_TooMany) "__getattribute__" = some (some (.builtin "BaseException.__getattribute__")))
    (xgg_TooMany : PySem.W.findIn K (.ref C_TooMany) "__getattr__" = some none)
    (xat_TooMany : PySem.W.findIn K (.ref C_TooMany) "at" = some none)
    (xi_TooMany : PySem.W.findIn K (.ref C_TooMany) "__init__" = some (some (.ref fI)))
    (xb_TooMany : PySem.W.subIn K (.ref C_TooMany) (.type "BaseException") = some true)
    (xt_TooMany : PySem.W.typeIn K (.ref C_TooMany) = some (.type "type"))
    (xh_TooMany : PySem.W.hasDictIn K C_TooMany = true)
    (xk_TooMany : PySem.W.keepIn K (.ref C_TooMany) = true)
    (xis_TooMany : PySem.W.isClsIn K C_TooMany = true)
    (l_I : K.lookup fI = some ⟨ocI, odI, .func (PySem.W.fnOf "__init__" "HouseError.__init__" (defArgs s_init) (defBody s_init) (defScope s_init) .none kVI dcI pmI anI cdI ctI), slI⟩)
    (c_I : PySem.W.codeIn K cdI "HouseError.__init__" = true)
    (k_I : PySem.W.keepIn K (.ref fI) = true)
    (t_I : PySem.W.typeIn K (.ref fI) = some (.type "function"))
    (e_BadLine_BadLine : PySem.W.subIn K (.ref C_BadLine) (.ref C_BadLine) = some true)
    (e_BadText_BadLine : PySem.W.subIn K (.ref C_BadText) (.ref C_BadLine) = some false)
    (e_BadText_BadText : PySem.W.subIn K (.ref C_BadText) (.ref C_BadText) = some true)
    (e_WrongOrder_BadLine : PySem.W.subIn K (.ref C_WrongOrder) (.ref C_BadLine) = some false)
    (e_WrongOrder_BadText : PySem.W.subIn K (.ref C_WrongOrder) (.ref C_BadText) = some false)
    (e_WrongOrder_WrongOrder : PySem.W.subIn K (.ref C_WrongOrder) (.ref C_WrongOrder) = some true)
    (e_TooMany_BadLine : PySem.W.subIn K (.ref C_TooMany) (.ref C_BadLine) = some false)
    (e_TooMany_BadText : PySem.W.subIn K (.ref C_TooMany) (.ref C_BadText) = some false)
    (e_TooMany_WrongOrder : PySem.W.subIn K (.ref C_TooMany) (.ref C_WrongOrder) = some false)
    (e_TooMany_TooMany : PySem.W.subIn K (.ref C_TooMany) (.ref C_TooMany) = some true)
    : ∃ fd : FuncData, (∀ (s : Shared) (v : Value), BindsTo s fd ⟨[v], []⟩ [("script", v)]) ∧ ∀ base : Heap, K.In base → base.Ns mainGlobals mg → FnOk P w K mg base CX0 6 fa fd ["script"] (spLaw K) := by
  have e := hfa.symm.trans (PySem.W.mg_of X G a_law)
  cases e
  have T : Txt K mg ⟨fI, C_HouseError, C_BadLine, C_BadText, C_WrongOrder, C_TooMany⟩ := ⟨PySem.W.mg_none_of X G z_abs, PySem.W.mg_none_of X G z_bool, PySem.W.mg_none_of X G z_enumerate, PySem.W.mg_none_of X G z_int, PySem.W.mg_none_of X G z_isinstance, PySem.W.mg_none_of X G z_len, PySem.W.mg_none_of X G z_list, PySem.W.mg_none_of X G z_max, PySem.W.mg_none_of X G z_min, PySem.W.mg_none_of X G z_range, PySem.W.mg_none_of X G z_str, PySem.W.mg_none_of X G z_tuple, ⟨_, PySem.W.mg_of X G n__MOST_LETTERS⟩, ⟨_, PySem.W.mg_of X G n__MOST_TEXTS⟩, ⟨_, _, fun_mk (st := s_write_house) l_write_house c_write_house k_write_house, PySem.W.mg_of X G a_write_house, (fun_mk (st := s_write_house) l_write_house c_write_house k_write_house).binds (ps := ["house"]) fun _ _ _ _ _ _ us hl => match us, hl with | [_], _ => rfl⟩, ⟨_, _, fun_mk (st := s_read_house) l_read_house c_read_house k_read_house, PySem.W.mg_of X G a_read_house, (fun_mk (st := s_read_house) l_read_house c_read_house k_read_house).binds (ps := ["text"]) fun _ _ _ _ _ _ us hl => match us, hl with | [_], _ => rfl⟩, ⟨_, _, fun_mk (st := s__read_line) l__read_line c__read_line k__read_line, PySem.W.mg_of X G a__read_line, (fun_mk (st := s__read_line) l__read_line c__read_line k__read_line).binds (ps := ["line", "at"]) fun _ _ _ _ _ _ us hl => match us, hl with | [_, _], _ => rfl⟩, ⟨_, _, fun_mk (st := s__number_of) l__number_of c__number_of k__number_of, PySem.W.mg_of X G a__number_of, (fun_mk (st := s__number_of) l__number_of c__number_of k__number_of).binds (ps := ["numeral"]) fun _ _ _ _ _ _ us hl => match us, hl with | [_], _ => rfl⟩, ⟨_, _, fun_mk (st := s__law_draws) l__law_draws c__law_draws k__law_draws, PySem.W.mg_of X G a__law_draws, (fun_mk (st := s__law_draws) l__law_draws c__law_draws k__law_draws).binds (ps := ["script"]) fun _ _ _ _ _ _ us hl => match us, hl with | [_], _ => rfl⟩, ⟨_, _, fun_mk (st := s__law_at) l__law_at c__law_at k__law_at, PySem.W.mg_of X G a__law_at, (fun_mk (st := s__law_at) l__law_at c__law_at k__law_at).binds (ps := ["draws", "k", "many"]) fun _ _ _ _ _ _ us hl => match us, hl with | [_, _, _], _ => rfl⟩, ⟨_, _, fun_mk (st := s__law_mix) l__law_mix c__law_mix k__law_mix, PySem.W.mg_of X G a__law_mix, (fun_mk (st := s__law_mix) l__law_mix c__law_mix k__law_mix).binds (ps := ["draws", "k", "many"]) fun _ _ _ _ _ _ us hl => match us, hl with | [_, _, _], _ => rfl⟩, ⟨_, _, fun_mk (st := s__law_letter) l__law_letter c__law_letter k__law_letter, PySem.W.mg_of X G a__law_letter, (fun_mk (st := s__law_letter) l__law_letter c__law_letter k__law_letter).binds (ps := ["cell"]) fun _ _ _ _ _ _ us hl => match us, hl with | [_], _ => rfl⟩, ⟨_, _, fun_mk (st := s__law_text) l__law_text c__law_text k__law_text, PySem.W.mg_of X G a__law_text, (fun_mk (st := s__law_text) l__law_text c__law_text k__law_text).binds (ps := ["draws", "k", "most"]) fun _ _ _ _ _ _ us hl => match us, hl with | [_, _, _], _ => rfl⟩, ⟨_, _, fun_mk (st := s__law_house) l__law_house c__law_house k__law_house, PySem.W.mg_of X G a__law_house, (fun_mk (st := s__law_house) l__law_house c__law_house k__law_house).binds (ps := ["draws", "k", "many", "most"]) fun _ _ _ _ _ _ us hl => match us, hl with | [_, _, _, _], _ => rfl⟩, ⟨_, _, fun_mk (st := s__law_spoilt) l__law_spoilt c__law_spoilt k__law_spoilt, PySem.W.mg_of X G a__law_spoilt, (fun_mk (st := s__law_spoilt) l__law_spoilt c__law_spoilt k__law_spoilt).binds (ps := ["draws", "text"]) fun _ _ _ _ _ _ us hl => match us, hl with | [_, _], _ => rfl⟩, ⟨_, _, fun_mk (st := s__law_number) l__law_number c__law_number k__law_number, PySem.W.mg_of X G a__law_number, (fun_mk (st := s__law_number) l__law_number c__law_number k__law_number).binds (ps := ["word"]) fun _ _ _ _ _ _ us hl => match us, hl with | [_], _ => rfl⟩, ⟨_, _, fun_mk (st := s__law_read) l__law_read c__law_read k__law_read, PySem.W.mg_of X G a__law_read, (fun_mk (st := s__law_read) l__law_read c__law_read k__law_read).binds (ps := ["text"]) fun _ _ _ _ _ _ us hl => match us, hl with | [_], _ => rfl⟩, ⟨_, _, fun_mk (st := s__law_told) l__law_told c__law_told k__law_told, PySem.W.mg_of X G a__law_told, (fun_mk (st := s__law_told) l__law_told c__law_told k__law_told).binds (ps := ["text"]) fun _ _ _ _ _ _ us hl => match us, hl with | [_], _ => rfl⟩, ⟨_, _, fun_mk (st := s_law) l_law c_law k_law, PySem.W.mg_of X G a_law, (fun_mk (st := s_law) l_law c_law k_law).binds (ps := ["script"]) fun _ _ _ _ _ _ us hl => match us, hl with | [_], _ => rfl⟩, ⟨_, fun_mk (st := s_init) l_I c_I k_I, (fun_mk (st := s_init) l_I c_I k_I).binds (ps := ["self", "at"]) (fun _ _ _ _ _ _ us hl => match us, hl with | [_, _], _ => rfl), t_I⟩, { g := PySem.W.mg_of X G xg_HouseError, o := ⟨⟨nm_HouseError, q_HouseError, N_HouseError, bs_HouseError, _, sn_HouseError, sub_HouseError, ab_HouseError, col_HouseError, dd_HouseError, m0_HouseError, m1_HouseError, m2_HouseError, m3_HouseError, m5_HouseError, xx_HouseError, by first | decide +kernel | rfl⟩, xs_HouseError, xb_HouseError, xt_HouseError, xk_HouseError⟩, i := xi_HouseError, no := xat_HouseError, f := ⟨xga_HouseError, xgg_HouseError, xb_HouseError, xh_HouseError⟩ }, { g := PySem.W.mg_of X G xg_BadLine, o := ⟨⟨nm_BadLine, q_BadLine, N_BadLine, bs_BadLine, _, sn_BadLine, sub_BadLine, ab_BadLine, col_BadLine, dd_BadLine, m0_BadLine, m1_BadLine, m2_BadLine, m3_BadLine, m5_BadLine, xx_BadLine, by first | decide +kernel | rfl⟩, xs_BadLine, xb_BadLine, xt_BadLine, xk_BadLine⟩, i := xi_BadLine, no := xat_BadLine, f := ⟨xga_BadLine, xgg_BadLine, xb_BadLine, xh_BadLine⟩ }, { g := PySem.W.mg_of X G xg_BadText, o := ⟨⟨nm_BadText, q_BadText, N_BadText, bs_BadText, _, sn_BadText, sub_BadText, ab_BadText, col_BadText, dd_BadText, m0_BadText, m1_BadText, m2_BadText, m3_BadText, m5_BadText, xx_BadText, by first | decide +kernel | rfl⟩, xs_BadText, xb_BadText, xt_BadText, xk_BadText⟩, i := xi_BadText, no := xat_BadText, f := ⟨xga_BadText, xgg_BadText, xb_BadText, xh_BadText⟩ }, { g := PySem.W.mg_of X G xg_WrongOrder, o := ⟨⟨nm_WrongOrder, q_WrongOrder, N_WrongOrder, bs_WrongOrder, _, sn_WrongOrder, sub_WrongOrder, ab_WrongOrder, col_WrongOrder, dd_WrongOrder, m0_WrongOrder, m1_WrongOrder, m2_WrongOrder, m3_WrongOrder, m5_WrongOrder, xx_WrongOrder, by first | decide +kernel | rfl⟩, xs_WrongOrder, xb_WrongOrder, xt_WrongOrder, xk_WrongOrder⟩, i := xi_WrongOrder, no := xat_WrongOrder, f := ⟨xga_WrongOrder, xgg_WrongOrder, xb_WrongOrder, xh_WrongOrder⟩ }, { g := PySem.W.mg_of X G xg_TooMany, o := ⟨⟨nm_TooMany, q_TooMany, N_TooMany, bs_TooMany, _, sn_TooMany, sub_TooMany, ab_TooMany, col_TooMany, dd_TooMany, m0_TooMany, m1_TooMany, m2_TooMany, m3_TooMany, m5_TooMany, xx_TooMany, by first | decide +kernel | rfl⟩, xs_TooMany, xb_TooMany, xt_TooMany, xk_TooMany⟩, i := xi_TooMany, no := xat_TooMany, f := ⟨xga_TooMany, xgg_TooMany, xb_TooMany, xh_TooMany⟩ }, exm_of xb_BadLine xis_BadLine xt_BadLine e_BadLine_BadLine, exm_of xb_BadLine xis_BadLine xt_BadLine e_BadText_BadLine, exm_of xb_BadText xis_BadText xt_BadText e_BadText_BadText, exm_of xb_BadLine xis_BadLine xt_BadLine e_WrongOrder_BadLine, exm_of xb_BadText xis_BadText xt_BadText e_WrongOrder_BadText, exm_of xb_WrongOrder xis_WrongOrder xt_WrongOrder e_WrongOrder_WrongOrder, exm_of xb_BadLine xis_BadLine xt_BadLine e_TooMany_BadLine, exm_of xb_BadText xis_BadText xt_BadText e_TooMany_BadText, exm_of xb_WrongOrder xis_WrongOrder xt_WrongOrder e_TooMany_WrongOrder, exm_of xb_TooMany xis_TooMany xt_TooMany e_TooMany_TooMany⟩
  exact ⟨PySem.W.fnOf "law" "law" (defArgs s_law) (defBody s_law) (defScope s_law) .none kV_law dc_law pm_law an_law cd_law ct_law, fun s v => .of_eq rfl, fun base _ _ => law_all T (fun_mk (st := s_law) l_law c_law k_law)⟩
end SH
open PySem PySem.W PyProof.Rows
set_option maxHeartbeats 0 in
theorem PySem.Challenge.cw_suffixhouse_k01_texts_of_houses_holds : PySem.Challenge.rw_suffixhouse_k01_texts_of_houses.Holds := by
  w_on; o_law; k_head; (case hw => w_witness2)
  k_fill
  refine L2.walk_of (l := PySem.Challenge.rw_suffixhouse_k01_texts_of_houses) (n := 63) (k := 6) (x := "script") (CX := fun _ => L2.CX0) (sp := fun w => SH.spLaw _) rfl (by decide) rfl ⟨rfl, by decide, by decide⟩ (fun w h Y => PySem.W.kIn_of Y) ?F (fun _ _ a ns hl _ hS => ⟨a, ns, rfl, hS, hl, fun _ => rfl⟩) (fun _ _ _ _ _ h => h)
  case F =>
    intro w mg fa h KX G hmg
    refine' SH.all_mk KX G hmg ?z_abs ?z_bool ?z_enumerate ?z_int ?z_isinstance ?z_len ?z_list ?z_max ?z_min ?z_range ?z_str ?z_tuple ?n__MOST_LETTERS ?n__MOST_TEXTS ?a_write_house ?l_write_house ?c_write_house ?k_write_house ?a_read_house ?l_read_house ?c_read_house ?k_read_house ?a__read_line ?l__read_line ?c__read_line ?k__read_line ?a__number_of ?l__number_of ?c__number_of ?k__number_of ?a__law_draws ?l__law_draws ?c__law_draws ?k__law_draws ?a__law_at ?l__law_at ?c__law_at ?k__law_at ?a__law_mix ?l__law_mix ?c__law_mix ?k__law_mix ?a__law_letter ?l__law_letter ?c__law_letter ?k__law_letter ?a__law_text ?l__law_text ?c__law_text ?k__law_text ?a__law_house ?l__law_house ?c__law_house ?k__law_house ?a__law_spoilt ?l__law_spoilt ?c__law_spoilt ?k__law_spoilt ?a__law_number ?l__law_number ?c__law_number ?k__law_number ?a__law_read ?l__law_read ?c__law_read ?k__law_read ?a__law_told ?l__law_told ?c__law_told ?k__law_told ?a_law ?l_law ?c_law ?k_law ?xg_HouseError ?xx_HouseError ?xs_HouseError ?xga_HouseError ?xgg_HouseError ?xat_HouseError ?xi_HouseError ?xb_HouseError ?xt_HouseError ?xh_HouseError ?xk_HouseError ?xis_HouseError ?xg_BadLine ?xx_BadLine ?xs_BadLine ?xga_BadLine ?xgg_BadLine ?xat_BadLine ?xi_BadLine ?xb_BadLine ?xt_BadLine ?xh_BadLine ?xk_BadLine ?xis_BadLine ?xg_BadText ?xx_BadText ?xs_BadText ?xga_BadText ?xgg_BadText ?xat_BadText ?xi_BadText ?xb_BadText ?xt_BadText ?xh_BadText ?xk_BadText ?xis_BadText ?xg_WrongOrder ?xx_WrongOrder ?xs_WrongOrder ?xga_WrongOrder ?xgg_WrongOrder ?xat_WrongOrder ?xi_WrongOrder ?xb_WrongOrder ?xt_WrongOrder ?xh_WrongOrder ?xk_WrongOrder ?xis_WrongOrder ?xg_TooMany ?xx_TooMany ?xs_TooMany ?xga_TooMany ?xgg_TooMany ?xat_TooMany ?xi_TooMany ?xb_TooMany ?xt_TooMany ?xh_TooMany ?xk_TooMany ?xis_TooMany ?l_I ?c_I ?k_I ?t_I ?e_BadLine_BadLine ?e_BadText_BadLine ?e_BadText_BadText ?e_WrongOrder_BadLine ?e_WrongOrder_BadText ?e_WrongOrder_WrongOrder ?e_TooMany_BadLine ?e_TooMany_BadText ?e_TooMany_WrongOrder ?e_TooMany_TooMany
    (case z_abs => first | k_is | rfl)
    (case z_bool => first | k_is | rfl)
    (case z_enumerate => first | k_is | rfl)
    (case z_int => first | k_is | rfl)
    (case z_isinstance => first | k_is | rfl)
    (case z_len => first | k_is | rfl)
    (case z_list => first | k_is | rfl)
    (case z_max => first | k_is | rfl)
    (case z_min => first | k_is | rfl)
    (case z_range => first | k_is | rfl)
    (case z_str => first | k_is | rfl)
    (case z_tuple => first | k_is | rfl)
    (case n__MOST_LETTERS => first | k_is | rfl)
    (case n__MOST_TEXTS => first | k_is | rfl)
    (case a_write_house => first | k_is | rfl)
    (case l_write_house => first | k_is | rfl)
    (case c_write_house => first | k_is | rfl)
    (case k_write_house => first | k_is | rfl)
    (case a_read_house => first | k_is | rfl)
    (case l_read_house => first | k_is | rfl)
    (case c_read_house => first | k_is | rfl)
    (case k_read_house => first | k_is | rfl)
    (case a__read_line => first | k_is | rfl)
    (case l__read_line => first | k_is | rfl)
    (case c__read_line => first | k_is | rfl)
    (case k__read_line => first | k_is | rfl)
    (case a__number_of => first | k_is | rfl)
    (case l__number_of => first | k_is | rfl)
    (case c__number_of => first | k_is | rfl)
    (case k__number_of => first | k_is | rfl)
    (case a__law_draws => first | k_is | rfl)
    (case l__law_draws => first | k_is | rfl)
    (case c__law_draws => first | k_is | rfl)
    (case k__law_draws => first | k_is | rfl)
    (case a__law_at => first | k_is | rfl)
    (case l__law_at => first | k_is | rfl)
    (case c__law_at => first | k_is | rfl)
    (case k__law_at => first | k_is | rfl)
    (case a__law_mix => first | k_is | rfl)
    (case l__law_mix => first | k_is | rfl)
    (case c__law_mix => first | k_is | rfl)
    (case k__law_mix => first | k_is | rfl)
    (case a__law_letter => first | k_is | rfl)
    (case l__law_letter => first | k_is | rfl)
    (case c__law_letter => first | k_is | rfl)
    (case k__law_letter => first | k_is | rfl)
    (case a__law_text => first | k_is | rfl)
    (case l__law_text => first | k_is | rfl)
    (case c__law_text => first | k_is | rfl)
    (case k__law_text => first | k_is | rfl)
    (case a__law_house => first | k_is | rfl)
    (case l__law_house => first | k_is | rfl)
    (case c__law_house => first | k_is | rfl)
    (case k__law_house => first | k_is | rfl)
    (case a__law_spoilt => first | k_is | rfl)
    (case l__law_spoilt => first | k_is | rfl)
    (case c__law_spoilt => first | k_is | rfl)
    (case k__law_spoilt => first | k_is | rfl)
    (case a__law_number => first | k_is | rfl)
    (case l__law_number => first | k_is | rfl)
    (case c__law_number => first | k_is | rfl)
    (case k__law_number => first | k_is | rfl)
    (case a__law_read => first | k_is | rfl)
    (case l__law_read => first | k_is | rfl)
    (case c__law_read => first | k_is | rfl)
    (case k__law_read => first | k_is | rfl)
    (case a__law_told => first | k_is | rfl)
    (case l__law_told => first | k_is | rfl)
    (case c__law_told => first | k_is | rfl)
    (case k__law_told => first | k_is | rfl)
    (case a_law => first | k_is | rfl)
    (case l_law => first | k_is | rfl)
    (case c_law => first | k_is | rfl)
    (case k_law => first | k_is | rfl)
    (case xg_HouseError => first | k_is | rfl)
    (case xx_HouseError => first | k_is | rfl)
    (case xs_HouseError => first | k_is | rfl)
    (case xga_HouseError => first | k_is | rfl)
    (case xgg_HouseError => first | k_is | rfl)
    (case xat_HouseError => first | k_is | rfl)
    (case xi_HouseError => first | k_is | rfl)
    (case xb_HouseError => first | k_is | rfl)
    (case xt_HouseError => first | k_is | rfl)
    (case xh_HouseError => first | k_is | rfl)
    (case xk_HouseError => first | k_is | rfl)
    (case xis_HouseError => first | k_is | rfl)
    (case xg_BadLine => first | k_is | rfl)
    (case xx_BadLine => first | k_is | rfl)
    (case xs_BadLine => first | k_is | rfl)
    (case xga_BadLine => first | k_is | rfl)
    (case xgg_BadLine => first | k_is | rfl)
    (case xat_BadLine => first | k_is | rfl)
    (case xi_BadLine => first | k_is | rfl)
    (case xb_BadLine => first | k_is | rfl)
    (case xt_BadLine => first | k_is | rfl)
    (case xh_BadLine => first | k_is | rfl)
    (case xk_BadLine => first | k_is | rfl)
    (case xis_BadLine => first | k_is | rfl)
    (case xg_BadText => first | k_is | rfl)
    (case xx_BadText => first | k_is | rfl)
    (case xs_BadText => first | k_is | rfl)
    (case xga_BadText => first | k_is | rfl)
    (case xgg_BadText => first | k_is | rfl)
    (case xat_BadText => first | k_is | rfl)
    (case xi_BadText => first | k_is | rfl)
    (case xb_BadText => first | k_is | rfl)
    (case xt_BadText => first | k_is | rfl)
    (case xh_BadText => first | k_is | rfl)
    (case xk_BadText => first | k_is | rfl)
    (case xis_BadText => first | k_is | rfl)
    (case xg_WrongOrder => first | k_is | rfl)
    (case xx_WrongOrder => first | k_is | rfl)
    (case xs_WrongOrder => first | k_is | rfl)
    (case xga_WrongOrder => first | k_is | rfl)
    (case xgg_WrongOrder => first | k_is | rfl)
    (case xat_WrongOrder => first | k_is | rfl)
    (case xi_WrongOrder => first | k_is | rfl)
    (case xb_WrongOrder => first | k_is | rfl)
    (case xt_WrongOrder => first | k_is | rfl)
    (case xh_WrongOrder => first | k_is | rfl)
    (case xk_WrongOrder => first | k_is | rfl)
    (case xis_WrongOrder => first | k_is | rfl)
    (case xg_TooMany => first | k_is | rfl)
    (case xx_TooMany => first | k_is | rfl)
    (case xs_TooMany => first | k_is | rfl)
    (case xga_TooMany => first | k_is | rfl)
    (case xgg_TooMany => first | k_is | rfl)
    (case xat_TooMany => first | k_is | rfl)
    (case xi_TooMany => first | k_is | rfl)
    (case xb_TooMany => first | k_is | rfl)
    (case xt_TooMany => first | k_is | rfl)
    (case xh_TooMany => first | k_is | rfl)
    (case xk_TooMany => first | k_is | rfl)
    (case xis_TooMany => first | k_is | rfl)
    (case l_I => first | k_is | rfl)
    (case c_I => first | k_is | rfl)
    (case k_I => first | k_is | rfl)
    (case t_I => first | k_is | rfl)
    (case e_BadLine_BadLine => first | k_is | rfl)
    (case e_BadText_BadLine => first | k_is | rfl)
    (case e_BadText_BadText => first | k_is | rfl)
    (case e_WrongOrder_BadLine => first | k_is | rfl)
    (case e_WrongOrder_BadText => first | k_is | rfl)
    (case e_WrongOrder_WrongOrder => first | k_is | rfl)
    (case e_TooMany_BadLine => first | k_is | rfl)
    (case e_TooMany_BadText => first | k_is | rfl)
    (case e_TooMany_WrongOrder => first | k_is | rfl)
    (case e_TooMany_TooMany => first | k_is | rfl)
