import PyProof.Rows.All
import Wide.All
import OpenK.AllK
import Wide.FinOn
import PyProof.EqAt
import PyProof.EqKinds
import PyProof.TupleCall
import HandS.ForMost
import HandS.Wide
import HandS.Codes
import HandS.TupLe
import HandS.Star
import HandS.StrMore
import HandS.FStr
import HandS.Evl
import HandS.Exc
import HandS.TryMany
import HandS.ExcInit
import HandS.ExcField
import HandS.WideBits
import HandS.WordsExc
import HandS.IsInst
import HandS.ExcIs
import KE.KExcIs
import HandS.Walk
import PySem.Challenge.RW_suffixhouse_k06_errors_are_apart
set_option Elab.async false
set_option linter.all false
set_option maxRecDepth 100000
set_option maxHeartbeats 4000000
namespace SH
open PySem PySem.Spec PyProof.Rows L2
section
variable {P : Program} {w : World} {K : PySem.W.Frag} {mg : Str → Option Value} {base : Heap}
/-- a def of the top as it stands: its text, its name's value, how it binds -/
structure Dd (K : PySem.W.Frag) (mg : Str → Option Value) (x : Str) (st : Stmt) (ps : List Str) : Prop where
  ex : ∃ (f : Addr) (fd : FuncData), Fun K x x st f fd ∧ mg x = some (.ref f) ∧ Binds K fd ps []
/-- a def that lets nothing out, callable by its name -/
abbrev Cl (P : Program) (w : World) (K : PySem.W.Frag) (mg : Str → Option Value) (base : Heap) (k : Nat) (x : Str) (sp : Sp) : Prop := C8.Cal P w K mg base k x sp []
/-- a def that may raise -/
structure ClX (P : Program) (w : World) (K : PySem.W.Frag) (mg : Str → Option Value) (base : Heap) (k : Nat) (x : Str) (sp : Sp) : Prop where
  ex : ∃ (f : Addr) (fd : FuncData) (ps : List Str), FnOk P w K mg base (L2.CX P w) k f fd ps sp ∧ mg x = some (.ref f) ∧ PySem.W.keepIn K (.ref f) = true ∧ Binds K fd ps []
theorem cl_of {x : Str} {st : Stmt} {ps N : List Str} {k : Nat} {sp : Sp} (D : Dd K mg x st ps) (S : FnScope N ps (defScope st)) (len : ∀ vs H Q E, sp vs H Q E → vs.length = ps.length)
    (hbody : ∀ (f : Addr) (cdv : Value) (A : Around) (outer : List Env) (s : Shared) (H : Hp) (vs : List V) (Q : VK) (E : XK), Room k (A.deeper (envOfC x (defScope st) s.heap.objs.size f cdv)) → sp vs H Q E →
      ∃ t, PSs (cxOf CX0 P w K mg base N x (defScope st) f cdv A outer s H E).nox (defBody st) t ∧ t { nx := fun _ H' => Q .non H', rt := Q } (start N vs) H) : Cl P w K mg base (k + 1) x sp := by
  obtain ⟨f, fd, F, hm, b⟩ := D.ex
  exact ⟨f, fd, ps, [], F.ok S len (fun cdv A outer s H vs Q E hr h => hbody f cdv A outer s H vs Q E hr h), hm, F.kp, b, .nil⟩
theorem clx_of {x : Str} {st : Stmt} {ps N : List Str} {k : Nat} {sp : Sp} (D : Dd K mg x st ps) (S : FnScope N ps (defScope st)) (len : ∀ vs H Q E, sp vs H Q E → vs.length = ps.length)
    (hbody : ∀ (f : Addr) (cdv : Value) (A : Around) (outer : List Env) (s : Shared) (H : Hp) (vs : List V) (Q : VK) (E : XK), Room k (A.deeper (envOfC x (defScope st) s.heap.objs.size f cdv)) → sp vs H Q E →
      ∃ t, PSs (cxOf (L2.CX P w) P w K mg base N x (defScope st) f cdv A outer s H E) (defBody st) t ∧ t { nx := fun _ H' => Q .non H', rt := Q } (start N vs) H) : ClX P w K mg base (k + 1) x sp := by
  obtain ⟨f, fd, F, hm, b⟩ := D.ex
  exact ⟨f, fd, ps, F.okX S len (fun cdv A outer s H vs Q E hr h => hbody f cdv A outer s H vs Q E hr h), hm, F.kp, b⟩
end
section
variable {X : Cx} {k j : Nat} {x : Str} {sp : Sp} {p pos : Pos} {e : Expr} {es : List Expr} {t : TA}
/-- f(e, ..) of a def that may raise, in a try's body or where it passes on -/
theorem pe_cx (c : ClX X.prog X.w X.K X.mg X.base k x sp) {E : L2.St → XK} (hr : Room j X.A) (hk : k ≤ j) (hx : ∀ σ, PassesAt (L2.CX X.prog X.w) X σ (E σ)) (hg : Gl X x) (ha : PA X (e :: es) t)
    (hdb : (x == ("__debug__" : Str)) = false := by decide) (he : starEach (e :: es) X.env = (false, eval e X.env) :: starEach es X.env := by rfl) (hpl : (backTo pos (starEach es X.env)).any (·.1) = false := by rfl) :
    PE X (.Call (.Name x p) (e :: es) [] pos) (tCallS sp E t) := by
  obtain ⟨f, fd, ps, F, hm, kp, b⟩ := c.ex
  exact pe_callS F (hr.mono hk) hg hm kp b hx ha hdb he hpl
end
theorem ixt {X : Cx} {K : PySem.W.Frag} (h : X.K = K := by rfl) : IxR X (rIxT K) := h ▸ ix_tup
theorem ixl {X : Cx} {K : PySem.W.Frag} (h : X.K = K := by rfl) : IxR X (rIxL K) := h ▸ ix_list
/-- a module's number -/
theorem pe_k {X : Cx} {x : Str} {pos : Pos} {v : Int} (h : ∃ t, X.mg x = some (.int v t)) (hg : Gl X x := by rfl) (hdb : (x == ("__debug__" : Str)) = false := by decide) : PE X (.Name x pos) (tC (.int v)) := by
  obtain ⟨t, h⟩ := h
  exact pe_glob hg h ⟨t, rfl⟩ hdb
/-! ### numbers drawn: a list of small numbers -/
def Dr (ns : List Int) : Prop := ns.length ≤ 4000 ∧ ∀ n ∈ ns, 0 ≤ n ∧ n < 65536
/-- r(draws, k, many): a number from 0 below many -/
def spDraw (K : PySem.W.Frag) : Sp := fun vs H Q _ => ∃ (a : Addr) (ns : List Int) (k many : Int), vs = [.ref a, .int k, .int many] ∧ SqL K H a (ns.map V.int) ∧ Dr ns ∧ 0 ≤ k ∧ k < 100000 ∧ 0 < many ∧ ∀ r : Int, 0 ≤ r → r < many → Q (.int r) H
theorem at_ints {ns : List Int} {i : Int} (h0 : 0 ≤ i) (h1 : i < ns.length) : ∃ z, atI (ns.map V.int) i = some (.int z) ∧ z ∈ ns := by
  obtain ⟨j, rfl⟩ : ∃ j : Nat, i = j := ⟨i.toNat, by omega⟩
  have hj : j < ns.length := by omega
  refine ⟨ns[j], ?_, List.getElem_mem hj⟩
  refine atI_nat ?_
  rw [List.getElem?_map, List.getElem?_eq_getElem hj]
  rfl
/-! ### heaps -/
theorem same_new {H : Hp} {p : Addr} {o : HO} (h : H p = none) : Same H (upd H p o) := fun b x e => by
  rw [upd_ne (ne_of_none e h)]
  exact e
theorem same_mut {H H' : Hp} {p : Addr} {o : HO} (e : Same H H') (h : H p = none) : Same H (upd H' p o) := fun b x hb => by
  rw [upd_ne (ne_of_none hb h)]
  exact e b x hb
theorem same_tup {K : PySem.W.Frag} {H H' : Hp} {a : Addr} {xs : List V} (e : Same H H') (h : SqT K H a xs) : SqT K H' a xs := by
  rcases h with (h | ⟨o, h⟩) | h
  · exact .inl (.inl (e _ _ h))
  · exact .inl (.inr ⟨o, e _ _ h⟩)
  · exact .inr h
/-! ### texts of letters -/
def okc (c : Nat) : Bool := decide (32 ≤ c) && (decide (c ≤ 126) && decide (c ≠ 37))
def IsLet (z : Str) : Prop := z.cps.toList.all okc = true
instance (z : Str) : Decidable (IsLet z) := inferInstanceAs (Decidable (_ = true))
theorem str_at {z : Str} {i : Int} (h0 : 0 ≤ i) (h1 : i < (z.cps.toList.length : Int)) : ∃ c, atI z.cps.toList i = some c ∧ c ∈ z.cps.toList := by
  obtain ⟨j, rfl⟩ : ∃ j : Nat, i = j := ⟨i.toNat, by omega⟩
  have hj : j < z.cps.toList.length := by omega
  exact ⟨z.cps.toList[j], atI_nat (List.getElem?_eq_getElem hj), List.getElem_mem hj⟩
theorem let_at {z : Str} {c : Nat} (h : IsLet z) (hc : c ∈ z.cps.toList) : IsLet ⟨#[c]⟩ := by
  have := List.all_eq_true.mp h c hc
  show ([c].all okc) = true
  simp [this]
theorem let_app {a b : Str} (ha : IsLet a) (hb : IsLet b) : IsLet (a ++ b) := by
  have e : (a ++ b).cps.toList = a.cps.toList ++ b.cps.toList := TL.tl_append a b
  show (a ++ b).cps.toList.all okc = true
  rw [e, List.all_append, Bool.and_eq_true]
  exact ⟨ha, hb⟩
theorem len_app (a b : Str) : (a ++ b).length = a.length + b.length := by
  have e : (a ++ b).cps.toList = a.cps.toList ++ b.cps.toList := TL.tl_append a b
  have e2 := congrArg List.length e
  rw [List.length_append] at e2
  simpa [Str.length] using e2
theorem at_map {α : Type} (f : α → V) {xs : List α} {i : Int} (h0 : 0 ≤ i) (h1 : i < xs.length) : ∃ x, atI (xs.map f) i = some (f x) ∧ x ∈ xs := by
  obtain ⟨j, rfl⟩ : ∃ j : Nat, i = j := ⟨i.toNat, by omega⟩
  have hj : j < xs.length := by omega
  refine ⟨xs[j], ?_, List.getElem_mem hj⟩
  refine atI_nat ?_
  rw [List.getElem?_map, List.getElem?_eq_getElem hj]
  rfl
theorem ixs_let {z : Str} {j : Int} {H : Hp} {Q : VK} (hz : IsLet z) (hl : z.length ≤ sizeLine) (h0 : 0 ≤ j) (h1 : j < (z.cps.toList.length : Int)) (h : ∀ c, okc c = true → Q (.str ⟨#[c]⟩) H) : rIxS (.str z) (.int j) H Q := by
  obtain ⟨c, hc, hm⟩ := str_at h0 h1
  exact ⟨z, j, c, rfl, rfl, hl, hc, h c (List.all_eq_true.mp hz c hm)⟩
theorem let_one {c : Nat} (h : okc c = true) : IsLet ⟨#[c]⟩ := by
  show ([c].all okc) = true
  simp [h]
/-! ### houses: pairs of a number and a text, each at its address -/
abbrev PL := List (Addr × Int × Str)
def refs (L : PL) : List V := L.map fun q => V.ref q.1
def PairsAt (K : PySem.W.Frag) (H : Hp) (L : PL) : Prop := ∀ q ∈ L, SqT K H q.1 [.int q.2.1, .str q.2.2]
def HsAt (K : PySem.W.Frag) (H : Hp) (a : Addr) (L : PL) : Prop := SqL K H a (refs L) ∧ PairsAt K H L
theorem PairsAt.same {K : PySem.W.Frag} {H H' : Hp} {L : PL} (e : Same H H') (h : PairsAt K H L) : PairsAt K H' L := fun q hq => same_tup e (h q hq)
theorem HsAt.same {K : PySem.W.Frag} {H H' : Hp} {a : Addr} {L : PL} (e : Same H H') (h : HsAt K H a L) : HsAt K H' a L := ⟨e.seq h.1, h.2.same e⟩
/-- numbers ascending from 0 to 99, texts of at most m letters -/
structure IsHs (m : Nat) (h : List (Int × Str)) : Prop where
  asc : (h.map (·.1)).Pairwise (· < ·)
  num : ∀ q ∈ h, 0 ≤ q.1 ∧ q.1 ≤ 99
  txt : ∀ q ∈ h, IsLet q.2 ∧ q.2.length ≤ m
end SH
set_option Elab.async false
set_option linter.all false
set_option maxRecDepth 100000
set_option maxHeartbeats 4000000
/-! except clauses, any number, with and without a name -/
namespace SH
open PySem PySem.Spec PyProof.Rows L2
abbrev Suite := Addr → Value → Option Addr → TS
/-- behind a suite whose name is forgotten -/
def gone (i : Nat) (D : Ends) : Ends :=
  ⟨fun τ G => D.nx (τ.set i none) G, D.rt, fun τ G => D.bk (τ.set i none) G, fun τ G => D.ct (τ.set i none) G⟩
/-- how a suite is entered: with its name in slot i, or without one -/
def enter (o : Option Nat) (ts : Suite) (a : Addr) (c : Value) (d : Option Addr) (D : Ends) (τ : L2.St) (G : Hp) : Prop :=
  match o with
  | none => ts a c d D τ G
  | some i => ts a c d (gone i D) (τ.set i (some (.ref a))) G
/-- the clauses' wishes: the first that matches -/
def wHds (K : PySem.W.Frag) (Wo : WX) (D : Ends) : List (Value × Option Nat × Suite) → WX
  | [] => Wo
  | q :: r => fun c d τ G => ∃ b, PySem.W.exmOne K c q.1 = some b ∧ (b = true → ∀ a, G a = none → enter q.2.1 q.2.2 a c d D τ G) ∧ (b = false → wHds K Wo D r c d τ G)
/-- a suite's text does what ts says -/
def SuiteOk (X : Cx) (sts : List Stmt) (ts : Suite) : Prop :=
  ∀ (a : Addr) (o : Obj) (c : Value) (d : Option Addr) (l : List (Addr × Obj)), Zc c d o → (∃ f, o.data = .fields f) → PSs (X.suite a ((a, o) :: l)) sts (ts a c d)
inductive HdsN (X : Cx) : List ExceptHandler → List (Value × Option Nat × Suite) → Prop
  | nil : HdsN X [] []
  | cons {x : Str} {c : Value} {ts : Suite} {u : Stmt} {us : List Stmt} {p p' : Pos} {hs : List ExceptHandler} {l : List (Value × Option Nat × Suite)} :
      Names X x c → SuiteOk X (u :: us) ts → HdsN X hs l → HdsN X (.ExceptHandler (some (.Name x p)) none (u :: us) p' :: hs) ((c, none, ts) :: l)
  | named {x n : Str} {i : Nat} {c : Value} {ts : Suite} {u : Stmt} {us : List Stmt} {p p' : Pos} {hs : List ExceptHandler} {l : List (Value × Option Nat × Suite)} :
      Names X x c → X.N.Nodup → X.N[i]? = some n → X.env.kindOf n = some .local → SuiteOk X (u :: us) ts → HdsN X hs l → HdsN X (.ExceptHandler (some (.Name x p)) (some n) (u :: us) p' :: hs) ((c, some i, ts) :: l)
/-- an exception that has come down to this frame: at a, of the class c, with its dict d, over the ground B -/
structure Down (X : Cx) (pins : List (Addr × Obj)) (B : Heap) (a : Addr) (c : Value) (d : Option Addr) (τ : L2.St) (G : Hp) (s : Shared) : Prop where
  st : X.stack = X.env :: X.outer
  fr : X.env.frame = some X.env.locals
  fl : HandSPX.FlyingZ B (X.env :: X.outer) a (Zc c d) s.heap
  on : ∀ h, B.StaysIn h → s.heap.UpToSlots h → Inv X pins τ G { s with heap := h }
  ok : Inv X pins τ G s
  no : G a = none
  out : ∀ (h : Heap) (W : WX), HandSPX.HeldZ B (X.env :: X.outer) a (Zc c d) X.env.locals h → s.heap.UpToSlots h → W c d τ G → XE X W (.ref a) { s with heap := h }
section
variable {X : Cx} {pins : List (Addr × Obj)} {B : Heap} {a : Addr} {c : Value} {d : Option Addr} {τ : L2.St} {G : Hp} {s : Shared}
theorem Down.inner (Y : Down X pins B a c d τ G s) : ∃ o, s.heap.get? a = some o ∧ Zc c d o ∧ (∃ f, o.data = .fields f) ∧ Inv (X.suite a ((a, o) :: (X.pn ++ pins))) [] τ G s := by
  obtain ⟨o, f, ga, za, da⟩ := Y.fl.there
  have away : a ∉ frs (X.env :: X.outer) := by
    intro m
    obtain ⟨-, o', g', nf⟩ := Y.fl.2.2.1.mem m
    cases ga.symm.trans g'
    exact nf _ da
  refine ⟨o, ga, za, ⟨f, da⟩, Y.ok.suite ga da Y.no ?_ ?_⟩
  · intro z
    refine away (List.mem_filterMap.mpr ⟨X.env, List.mem_cons_self, ?_⟩)
    rw [Y.fr, z]
  · intro m
    obtain ⟨e, me, q⟩ := List.mem_filterMap.mp m
    exact away (List.mem_filterMap.mpr ⟨e, List.mem_cons_of_mem _ me, q⟩)
/-- the clause's name is asked, and whether the exception is of it -/
theorem Down.asked (Y : Down X pins B a c d τ G s) {x : Str} {p : Pos} {cl : Value} {b : Bool} (nm : Names X x cl) (hb : PySem.W.exmOne X.K c cl = some b) {Q : Bool → Shared → Prop} {E : Value → Shared → Prop} (q : Q b s) :
    wpAny (model X.prog X.w) (X.A.mark (some (.ref a))) (eval (.Name x p) X.env) (fun u s1 => wpAny (model X.prog X.w) (X.A.mark (some (.ref a))) (excMatches (.ref a) u) Q E s1) E s := by
  obtain ⟨o, ga, za, -, S⟩ := Y.inner
  have ty : PySem.W.Looks (model X.prog X.w) s.heap (typeOf (.ref a)) c := fun _ _ _ _ k z => wpAny_typeOf_ref (k _ _ ga) (by rw [za.1]; exact z)
  have mt := (PySem.W.exm_one (M := model X.prog X.w) Y.ok.kIn ty hb).here (A := X.A.mark (some (.ref a))) (Q := Q) (E := E) q
  obtain ⟨g, nd, hm | ⟨hm, hv, nn⟩⟩ := nm
  · exact ld_glob (X := X.suite a ((a, o) :: (X.pn ++ pins))) S g hm mt nd
  · exact ld_blt (X := X.suite a ((a, o) :: (X.pn ++ pins))) S g hm hv mt nn nd
/-- once more at the suite's beginning -/
theorem Down.again (Y : Down X pins B a c d τ G s) {h : Heap} (f : HandSPX.FlyingZ B (X.env :: X.outer) a (Zc c d) h) (u : s.heap.UpToSlots h) : Down X pins B a c d τ G { s with heap := h } :=
  ⟨Y.st, Y.fr, f, fun g k v => Y.on g k (u.trans v), Y.on h f.1 u, Y.no, fun g W k v w => Y.out g W k (u.trans v) w⟩
theorem Down.handle (Y : Down X pins B a c d τ G s) {D : Ends} {Wo : WX} (tk : Takes X Wo) {hs : List ExceptHandler} {l : List (Value × Option Nat × Suite)} (hk : HdsN X hs l) :
    wHds X.K Wo D l c d τ G → wpAny (model X.prog X.w) X.A (handleBy (.ref a) X.env hs) (SP X pins D) X.xe s := by
  induction hk with
  | nil =>
    intro wish
    refine wpAny_handleBy_nil ?_
    obtain ⟨-, -, -, o, f, T, -, -, go, -, dat, f1, -⟩ := id Y.fl
    unfold PySem.passOn
    refine wpAny_bind (wpAny_field go dat f1 ?_)
    rw [if_neg (by simp : ¬ ((Value.ref T == Value.none) = true))]
    have up : wpAny (model X.prog X.w) X.A (setFlight (.ref a) X.env.frame) (fun _ s4 => wpAny (model X.prog X.w) X.A (throw (.ref a) : Sem Flow) (SP X pins D) X.xe s4) X.xe s := by
      rw [Y.fr]
      exact HandSPX.setFlight_upZ Y.fl fun h held u => wpAny_throw (tk _ _ (Y.out h _ held u wish))
    first
      | exact wpAny_bind (wpAny_pure (wpAny_bind up))
      | exact wpAny_bind up
  | @cons x cl ts u us p p' hs l nm so r ih =>
    rintro ⟨b, hb, yes, no⟩
    refine wpAny_handleBy_cons (codeAny_handlers_test (Y.asked nm hb ?_)) (fun z => nomatch z)
    match b, yes, no with
    | false, _, no => exact ih (no rfl)
    | true, yes, _ =>
      refine codeAny_handlers_suite (HandSPX.lands_againZ Y.fl fun h f v => ?_)
      obtain ⟨o, -, zo, fo, S⟩ := (Y.again f v).inner
      refine wpAny_mono ((so a o c d (X.pn ++ pins) zo fo).run [] _ _ G _ S (yes rfl a Y.no)) ?_ (fun _ _ z => z.elim)
      intro g s6 hsp
      match g, hsp with
      | .next, ⟨τ6, G6, S6, z⟩ => exact ⟨τ6, G6, S6.unsuite Y.ok.ok, z⟩
      | .brk, ⟨τ6, G6, S6, z⟩ => exact ⟨τ6, G6, S6.unsuite Y.ok.ok, z⟩
      | .cont, ⟨τ6, G6, S6, z⟩ => exact ⟨τ6, G6, S6.unsuite Y.ok.ok, z⟩
      | .ret u, ⟨v6, τ6, G6, S6, r6, z⟩ => exact ⟨v6, τ6, G6, S6.unsuite Y.ok.ok, r6, z⟩
  | @named x n i cl ts u us p p' hs l nm hN hi ho so r ih =>
    rintro ⟨b, hb, yes, no⟩
    refine wpAny_handleBy_cons (codeAny_handlers_test (Y.asked nm hb ?_)) (fun z => nomatch z)
    match b, yes, no with
    | false, _, no => exact ih (no rfl)
    | true, yes, _ =>
      refine codeAny_handlers_suite_as (HandSPX.lands_againZ Y.fl fun h f v => ?_)
      obtain ⟨o, -, zo, fo, S⟩ := (Y.again f v).inner
      refine store_ok (X := X.suite a ((a, o) :: (X.pn ++ pins))) (v := .ref a) S hN hi (.inl ho) rfl (fun s5 S5 => ?_) (.inr ho)
      refine wpAny_mono ((so a o c d (X.pn ++ pins) zo fo).run [] s5 _ G _ S5 (yes rfl a Y.no)) ?_ (fun _ _ z => z.elim)
      intro g s6 hsp
      match g, hsp with
      | .next, ⟨τ6, G6, S6, z⟩ => exact gone_ok (S6.unsuite Y.ok.ok) hN hi ho fun s7 J => ⟨τ6.set i none, G6, J, z⟩
      | .brk, ⟨τ6, G6, S6, z⟩ => exact gone_ok (S6.unsuite Y.ok.ok) hN hi ho fun s7 J => ⟨τ6.set i none, G6, J, z⟩
      | .cont, ⟨τ6, G6, S6, z⟩ => exact gone_ok (S6.unsuite Y.ok.ok) hN hi ho fun s7 J => ⟨τ6.set i none, G6, J, z⟩
      | .ret u, ⟨v6, τ6, G6, S6, r6, z⟩ => exact gone_ok (S6.unsuite Y.ok.ok) hN hi ho fun s7 J => ⟨v6, τ6.set i none, G6, J, r6, z⟩
end
/-- try: body, any clauses -/
theorem ps_try_hds {X : Cx} {body : List Stmt} {h₀ : ExceptHandler} {hs : List ExceptHandler} {l : List (Value × Option Nat × Suite)} {pos : Pos} {tb : WX → TS} {Wo : WX}
    (st : X.stack = X.env :: X.outer) (fr : X.env.frame = some X.env.locals) (tk : Takes X Wo)
    (bo : ∀ (W : WX) (pn : List (Addr × Obj)) (xe : Value → Shared → Prop), Takes (X.tr pn xe) W → PassesOwn (model X.prog X.w) X.A X.env xe → PSs (X.tr pn xe) body (tb W))
    (hk : HdsN X (h₀ :: hs) l) : PS X (.Try body (h₀ :: hs) [] [] pos) (fun D τ G => tb (wHds X.K Wo D l) D τ G) := by
  constructor
  intro pins s τ G D I q
  have ok := I.ok
  refine wpAny_Try_except (wpAny_mono ((bo (wHds X.K Wo D l) (X.pn ++ pins) _ ?_ PassesOwn.looking).run [] s τ G D (I.toTry _) q) (fun f s1 r => ?_) (fun e s1 r => r))
  · rintro u s2 ⟨a, B, sI, pins', τ2, G2, c, d, rfl, J', nb, up, sky, na, os, ag, wish⟩
    have J := J'.ofTry ok
    have sky2 : Sky B (X.env :: X.outer) a (Zc c d) X.env.locals s2.heap := st ▸ sky
    refine Sky.land Zc.steady (by rw [ok.frames, st]) fr sky2 (fun h f v => ?_)
    refine Down.handle (B := B) (a := a) (c := c) (d := d) (τ := τ2) (G := G2) (s := { s2 with heap := h }) ⟨st, fr, f, fun g k z => J.landed nb k ((up.trans v).trans z) os ag, J.landed nb f.1 (up.trans v) os ag, na, fun g W k z w => ?_⟩ tk hk wish
    exact ⟨a, B, sI, pins, τ2, G2, c, d, rfl, J, nb, (up.trans v).trans z, .inr (.inr (by rw [st]; exact k)), na, os, ag, w⟩
  · match f, r with
    | .next, ⟨τ2, G2, J, z⟩ => exact wpAny_execs_nil ⟨τ2, G2, J.ofTry ok, z⟩
    | .brk, ⟨τ2, G2, J, z⟩ => exact ⟨τ2, G2, J.ofTry ok, z⟩
    | .cont, ⟨τ2, G2, J, z⟩ => exact ⟨τ2, G2, J.ofTry ok, z⟩
    | .ret u, ⟨v, τ2, G2, J, r2, z⟩ => exact ⟨v, τ2, G2, J.ofTry ok, r2, z⟩
end SH
set_option Elab.async false
set_option linter.all false
set_option maxRecDepth 100000
set_option maxHeartbeats 4000000
/-! errors with a number: made by the base's __init__, raised, caught, asked for their number -/
namespace SH
open PySem PySem.Spec PyProof.Rows L2
/-- numbers that an error is made with here -/
def Small (n : Int) : Prop := n.natAbs < 2 ^ 200
theorem small_bits {n : Int} (h : Small n) : decide ((1000 : Int) < ((Builtin.Int.intBits n : Nat) : Int)) = false := by
  have a := PySem.Flt.log2_lt_of (by decide : 0 < 200) h
  have b : Builtin.Int.intBits n ≤ n.natAbs.log2 + 1 := by
    unfold Builtin.Int.intBits
    split <;> omega
  refine decide_eq_false ?_
  omega
theorem small_of {n : Int} (h0 : -1000000 ≤ n) (h1 : n ≤ 1000000) : Small n := Nat.lt_of_le_of_lt (by omega : n.natAbs ≤ 1000000) (by decide)
/-- __init__(self, at) at a new exception: its dict gets the number -/
def spInitAt (K : PySem.W.Frag) : Sp := fun vs H Q _ => ∃ (a C : Addr) (n : Int), vs = [.ref a, .int n] ∧ OexC K C ∧ PySem.W.findIn K (.ref C) "at" = some none ∧ Small n ∧ H a = some (exo a C none) ∧
  ∀ dx : Addr, H dx = none → dx ≠ a → Q .non (upd (upd H dx (exd dx [(("at" : Str), .int n)])) a (exo a C (some dx)))
/-- what the top says of an error's class -/
structure ErrC (K : PySem.W.Frag) (mg : Str → Option Value) (x : Str) (C fI : Addr) : Prop where
  g : mg x = some (.ref C)
  o : OexC K C
  i : PySem.W.findIn K (.ref C) "__init__" = some (some (.ref fI))
  no : PySem.W.findIn K (.ref C) "at" = some none
  f : XfC K C
/-- .. and of the __init__ -/
structure InitOk (P : Program) (w : World) (K : PySem.W.Frag) (mg : Str → Option Value) (base : Heap) (fI : Addr) : Prop where
  ex : ∃ fd : FuncData, FnOk P w K mg base CX0 1 fI fd ["self", "at"] (spInitAt K) ∧ Binds K fd ["self", "at"] [] ∧ PySem.W.typeIn K (.ref fI) = some (.type "function")
/-- .. as it stands in the text -/
structure DdI (K : PySem.W.Frag) (q : Str) (st : Stmt) (fI : Addr) : Prop where
  ex : ∃ fd : FuncData, Fun K "__init__" q st fI fd ∧ Binds K fd ["self", "at"] [] ∧ PySem.W.typeIn K (.ref fI) = some (.type "function")
section
variable {X : Cx} {k : Nat} {x : Str} {C fI : Addr} {e : Expr} {ta : TA} {p pos : Pos}
/-- x(e): a new error of the class at C -/
theorem pmk_at (T : ErrC X.K X.mg x C fI) (I : InitOk X.prog X.w X.K X.mg X.base fI) (hr : Room k X.A) (hk : 2 ≤ k) (hg : Gl X x) (ha : PA X (e :: []) ta)
    (hd : (x == ("__debug__" : Str)) = false := by decide) (he : starEach (e :: []) X.env = (false, eval e X.env) :: starEach [] X.env := by rfl) (hp : (backTo pos (starEach [] X.env)).any (·.1) = false := by rfl) :
    PMk X (.Call (.Name x p) (e :: []) [] pos) (tMkO C (spInitAt X.K) [] ta) := by
  obtain ⟨fd, F, b, t⟩ := I.ex
  exact pmk_oex T.o T.i t F (hr.mono hk) b .nil pass0 hg T.g ha hd he hp
end
/-- the reading of a made error, behind its argument -/
theorem mk_at {K : PySem.W.Frag} {C : Addr} {H1 : Hp} {n : Int} {Q : XK} (To : OexC K C) (Tn : PySem.W.findIn K (.ref C) "at" = some none) (hs : Small n)
    (go : ∀ (d : Addr) (H2 : Hp), Same H1 H2 → H1 d = none → H2 d = some (.xd [(("at" : Str), .int n)]) → Q (.ref C) (some d) H2) :
    [V.int n].length ≤ 1000 ∧ ∀ a, H1 a = none → spInitAt K (.ref a :: ([V.int n] ++ [])) (upd H1 a (exo a C none))
      (fun v H2 => v = .non ∧ ∃ (d : Addr) (fs : List (Str × V)), H2 a = some (exo a C (some d)) ∧ H2 d = some (exd d fs) ∧ H1 d = none ∧ Q (.ref C) (some d) (upd (del H2 a) d (.xd fs))) (fun _ _ _ => False) := by
  refine ⟨(by show 1 ≤ 1000; decide), fun a na => ⟨a, C, n, rfl, To, Tn, hs, upd_same, fun dx ndx ne => ⟨rfl, dx, [(("at" : Str), V.int n)], upd_same, ?_, ?_, ?_⟩⟩⟩
  · rw [upd_ne ne, upd_same]
  · rw [upd_ne ne] at ndx
    exact ndx
  · rw [upd_ne ne] at ndx
    refine go dx _ (fun b o hb => ?_) ndx upd_same
    have b1 : b ≠ dx := ne_of_none hb ndx
    have b2 : b ≠ a := ne_of_none hb na
    rw [upd_ne b1, del_ne b2, upd_ne b2, upd_ne b1, upd_ne b2]
    exact hb
theorem wHds_skip {K : PySem.W.Frag} {Wo : WX} {D : Ends} {q : Value × Option Nat × Suite} {r : List (Value × Option Nat × Suite)} {c : Value} {d : Option Addr} {τ : L2.St} {G : Hp} (h : PySem.W.exmOne K c q.1 = some false)
    (go : wHds K Wo D r c d τ G) : wHds K Wo D (q :: r) c d τ G := ⟨false, h, (fun z => Bool.noConfusion z), fun _ => go⟩
theorem wHds_take {K : PySem.W.Frag} {Wo : WX} {D : Ends} {q : Value × Option Nat × Suite} {r : List (Value × Option Nat × Suite)} {c : Value} {d : Option Addr} {τ : L2.St} {G : Hp} (h : PySem.W.exmOne K c q.1 = some true)
    (go : ∀ a, G a = none → enter q.2.1 q.2.2 a c d D τ G) : wHds K Wo D (q :: r) c d τ G := ⟨true, h, (fun _ => go), (fun z => Bool.noConfusion z)⟩
theorem exm_of {K : PySem.W.Frag} {C D : Addr} {b : Bool} (h1 : PySem.W.subIn K (.ref D) (.type "BaseException") = some true) (h2 : PySem.W.isClsIn K D = true) (h3 : PySem.W.typeIn K (.ref D) = some (.type "type"))
    (h4 : PySem.W.subIn K (.ref C) (.ref D) = some b) : PySem.W.exmOne K (.ref C) (.ref D) = some b := by
  have c1 : (PySem.W.subIn K (.ref D) (.type "BaseException") == some true) = true := by rw [h1]; rfl
  have c2 : ((PySem.W.clsIn K D).isSome && PySem.W.typeIn K (.ref D) == some (.type "type")) = true := by
    have h2' : (PySem.W.clsIn K D).isSome = true := h2
    rw [h3, h2']; rfl
  unfold PySem.W.exmOne
  rw [if_pos c1]
  show (if ((PySem.W.clsIn K D).isSome && PySem.W.typeIn K (.ref D) == some (.type "type")) = true then PySem.W.subIn K (.ref C) (.ref D) else none) = some b
  rw [if_pos c2]
  exact h4
end SH
set_option Elab.async false
set_option linter.all false
set_option maxRecDepth 100000
set_option maxHeartbeats 4000000
/-! errors as values: made, asked for their kind and their number -/
namespace SH
open PySem PySem.Spec PyProof.Rows L2
/-- at a: an error of the class at C with the number n -/
def ExvAt (H : Hp) (a C : Addr) (n : Int) : Prop := ∃ dx : Addr, H a = some (exo a C (some dx)) ∧ H dx = some (exd dx [(("at" : Str), .int n)])
theorem ExvAt.same {H H' : Hp} {a C : Addr} {n : Int} (e : Same H H') (h : ExvAt H a C n) : ExvAt H' a C n := by
  obtain ⟨dx, h1, h2⟩ := h
  exact ⟨dx, e _ _ h1, e _ _ h2⟩
/-- C(n) as a value -/
def tMkV (C : Addr) (ta : TA) : TE := fun τ H Q => ta τ H fun vs H1 => ∃ n : Int, vs = [.int n] ∧ Small n ∧ ∀ (a : Addr) (H2 : Hp), Same H1 H2 → ExvAt H2 a C n → Q (.ref a) H2
/-- isinstance(e, c) -/
def rIsV (K : PySem.W.Frag) : List V → Hp → VK → Prop := fun xs H Q => ∃ (a C : Addr) (n : Int) (c : V) (cv : Value) (b : Bool), xs = [.ref a, c] ∧ ExvAt H a C n ∧ ClsV c cv ∧ ExcC K C ∧ PySem.W.kitOne K (.ref C) cv = some b ∧ Q (.bl b) H
/-- e.at -/
def tAtV (K : PySem.W.Frag) (te : TE) : TE := fun τ H Q => te τ H fun x H1 => ∃ (a C : Addr) (n : Int), x = .ref a ∧ ExvAt H1 a C n ∧ XfC K C ∧ PySem.W.findIn K (.ref C) "at" = some none ∧ Q (.int n) H1
section
variable {X : Cx} {k : Nat} {x : Str} {C fI : Addr} {e : Expr} {ta : TA} {te : TE} {p pos : Pos}
theorem pe_mkv (T : ErrC X.K X.mg x C fI) (J : InitOk X.prog X.w X.K X.mg X.base fI) (hr : Room k X.A) (hk : 2 ≤ k) (hg : Gl X x) (ha : PA X (e :: []) ta)
    (hd : (x == ("__debug__" : Str)) = false := by decide) (he : starEach (e :: []) X.env = (false, eval e X.env) :: starEach [] X.env := by rfl) (hp : (backTo pos (starEach [] X.env)).any (·.1) = false := by rfl) :
    PE X (.Call (.Name x p) (e :: []) [] pos) (tMkV C ta) := by
  obtain ⟨fd, FI, bI, tI⟩ := J.ex
  obtain ⟨nm, q, N, bs, bm, sn, sub, ab, col, dd, k0, k1, k2, k3, k5, hC, hbm⟩ := T.o.cls
  constructor
  intro pins s τ H Q I h
  refine wpAny_Call_Name_kw (ld_glob I hg T.g ?_ hd)
  refine PySem.W.callWith_K (h₀ := X.base) I.ok.mod.kin T.o.kC (thn (ha.run pos pins s τ H _ I h) ?_) he hp
  rintro us s1 ⟨vs, H1, I1, r1, n, rfl, hs, go⟩
  refine ⟨I1.kIn, ?_⟩
  show wpAny _ _ (call (.ref C) us) _ _ _
  obtain ⟨hp1, g, dr, tk, os⟩ := s1
  have up : hp1.objs.size ≤ hp1.objs.size + 1 := Nat.le_succ _
  have na : H1 (hp1.objs.size + 1) = none := I1.hok.fresh up
  have old : ∀ b o, hp1.get? b = some o → ((hp1.push (PySem.W.kdv_tup us)).push (PySem.HandSPX.excO C hp1.objs.size)).get? b = some o :=
    fun b o z => Heap.get?_push_of_some _ (Heap.get?_push_of_some _ z)
  have new : ((hp1.push (PySem.W.kdv_tup us)).push (PySem.HandSPX.excO C hp1.objs.size)).get? (hp1.objs.size + 1) = some (PySem.HandSPX.excO C hp1.objs.size) := by heap_get
  have I2 : Inv X pins τ (upd H1 (hp1.objs.size + 1) (exo (hp1.objs.size + 1) C none)) ⟨(hp1.push (PySem.W.kdv_tup us)).push (PySem.HandSPX.excO C hp1.objs.size), g, dr, tk, os⟩ :=
    I1.laid (t' := tk) (a := hp1.objs.size + 1) (o := exo (hp1.objs.size + 1) C none) (h' := (hp1.push (PySem.W.kdv_tup us)).push (PySem.HandSPX.excO C hp1.objs.size)) old up (exo_ok new)
  have r2 : Vals [V.ref (hp1.objs.size + 1), V.int n] (Value.ref (hp1.objs.size + 1) :: us) := .cons rfl r1
  have want : spInitAt X.K [.ref (hp1.objs.size + 1), .int n] (upd H1 (hp1.objs.size + 1) (exo (hp1.objs.size + 1) C none)) (fun v H2 => v = .non ∧ Q (.ref (hp1.objs.size + 1)) H2) (fun _ _ _ => False) := by
    refine ⟨_, C, n, rfl, T.o, T.no, hs, upd_same, fun dx n1 n2 => ⟨rfl, go _ _ (fun b o hb => ?_) ⟨dx, upd_same, ?_⟩⟩⟩
    · rw [upd_ne n2] at n1
      have b1 : b ≠ dx := ne_of_none hb n1
      have b2 : b ≠ hp1.objs.size + 1 := ne_of_none hb na
      rw [upd_ne b2, upd_ne b1, upd_ne b2]
      exact hb
    · rw [upd_ne n2, upd_same]
  have hl : (Value.ref (hp1.objs.size + 1) :: us ++ []).length = (["self", "at"] : List Str).length := by
    rw [List.append_nil]
    exact r2.length.symm
  have lus : us.length ≤ sizeLine := by
    rw [← Paired.length r1]
    show 1 ≤ sizeLine
    decide
  have bind := bI _ (Value.ref (hp1.objs.size + 1) :: us) I2.kIn hl
  rw [List.append_nil] at bind
  refine wpAny_call (PySem.HandSPX.call_own F.excBase_ValueError (fun Y => PySem.HandSPX.refsVE_contains Y bm hbm) (I1.kIn _ _ hC) (PySem.W.looks_findIn I1.kIn T.i) (fun self => PySem.W.bind_fn I1.kIn self tI) lus ?_)
  refine codeAny_mono (FI.run _ X.stack _ _ ⟨Value.ref (hp1.objs.size + 1) :: us, []⟩ (Value.ref (hp1.objs.size + 1) :: us) _ _ (fun _ _ _ => False) ((hr.mono hk).make C us []) (I2.env0.make C us []) bind r2 want) (fun r s' hq => ?_)
  match r, hq with
  | .error er, hq => exact pass0 pins τ _ _ er s' I2 hq
  | .ok (.ret u), hq =>
    obtain ⟨v, H3, I3, rv, ev, q3⟩ := I2.after hq
    subst ev
    exact ⟨rv, .ref (hp1.objs.size + 1), H3, I3, rfl, q3⟩
theorem call_isv : CallR X (.builtin "isinstance") (rIsV X.K) := by
  intro pins s τ H xs us Q I r h
  obtain ⟨a, C, n, c, cv, b, rfl, ⟨dx, ha, hdx⟩, kc, T, e, q⟩ := h
  obtain ⟨u1, u2, rfl, r1, r2⟩ := vals2 r
  cases (show u1 = Value.ref a from r1)
  cases kc.eq r2
  obtain ⟨t1, ho⟩ := exo_at I.hok ha
  obtain ⟨mA, hns, _⟩ := exd_at I.hok hdx
  obtain ⟨od, hod, _⟩ := lookIn_ns hns
  have isc : (PySem.W.clsIn X.K C).isSome = true := by
    obtain ⟨cd, hc, _⟩ := PySem.W.any_some T.hd
    rw [hc]
    rfl
  have at_ : PySem.W.InstAt s.heap a { cls := .ref C, dict := some dx, data := .fields #[.ref t1, .none, .none, .none, .bool false, .none] } C (some od) := ⟨ho, rfl, rfl, hod⟩
  exact PySem.W.kia_one (PySem.W.kitx_exc isc T.hg T.hk T.hs T.ha T.hn T.ht T.hm) I.kIn at_ e (fun z => nomatch z) fun tk => ⟨.bl b, H, I.tok tk, rfl, q⟩
theorem pe_atv (he : PE X e te) (hb : attributeBase e "at" X.env (eval e X.env) = eval e X.env := by rfl) : PE X (.Attribute e "at" pos) (tAtV X.K te) := by
  constructor
  intro pins s τ H Q I h
  refine attr_of hb (thn (he.run pins s τ H _ I h) ?_)
  rintro u s1 ⟨x, H1, I1, rx, a, C, n, rfl, ⟨dx, ha, hdx⟩, T, no, q⟩
  obtain rfl : u = Value.ref a := rx
  obtain ⟨t1, ho⟩ := exo_at I1.hok ha
  obtain ⟨mA, hns, rel⟩ := exd_at I1.hok hdx
  obtain ⟨od, hod, look⟩ := lookIn_ns hns
  obtain ⟨u, hu, ru⟩ := RelO.some_of (v := .int n) (o := mA "at") (by
    have z := rel "at"
    have l : List.lookup ("at" : Str) [(("at" : Str), V.int n)] = some (.int n) := by simp [List.lookup]
    rw [l] at z
    exact z)
  have at_ : PySem.W.InstAt s1.heap a { cls := .ref C, dict := some dx, data := .fields #[.ref t1, .none, .none, .none, .bool false, .none] } C (some od) := ⟨ho, rfl, rfl, hod⟩
  exact HandSPX.exc_get I1.kIn at_ T.ga T.gg T.exC (PySem.W.findObj_own T.hdC no rfl (by rw [look, hu])) (handed_of ru) ⟨.int n, H1, I1.tok _, ru, q⟩
end
/-- a class as a value -/
theorem pe_cls {X : Cx} {x : Str} {C : Addr} {pos : Pos} (h : X.mg x = some (.ref C)) (hg : Gl X x := by rfl) (hdb : (x == ("__debug__" : Str)) = false := by decide) : PE X (.Name x pos) (tC (.ref C)) := pe_glob hg h rfl hdb
theorem kit_refB {K : PySem.W.Frag} {A B : Addr} {b : Bool} (is : PySem.W.isClsIn K B = true) (ty : PySem.W.typeIn K (.ref B) = some (.type "type")) (own : PySem.W.subIn K (.ref A) (.ref A) = some true)
    (h : PySem.W.subIn K (.ref A) (.ref B) = some b) : PySem.W.kitOne K (.ref A) (.ref B) = some b := by
  unfold PySem.W.kitOne
  by_cases e : A = B
  · subst e
    rw [own] at h
    cases h
    rw [if_pos (beq_self_eq_true _)]
  · have ne : (Value.ref A == Value.ref B) = false := by simpa using e
    rw [ne, if_neg Bool.false_ne_true]
    have c2 : ((PySem.W.clsIn K B).isSome && PySem.W.typeIn K (.ref B) == some (.type "type")) = true := by
      have i2 : (PySem.W.clsIn K B).isSome = true := is
      rw [ty, i2]; rfl
    show (if ((PySem.W.clsIn K B).isSome && PySem.W.typeIn K (.ref B) == some (.type "type")) = true then PySem.W.subIn K (.ref A) (.ref B) else none) = some b
    rw [if_pos c2]
    exact h
theorem kit_refT {K : PySem.W.Frag} {A : Addr} {b : Bool} (h : PySem.W.subIn K (.ref A) (.type "ValueError") = some b) : PySem.W.kitOne K (.ref A) (.type "ValueError") = some b := by
  unfold PySem.W.kitOne
  have ne : (Value.ref A == Value.type "ValueError") = false := by rfl
  rw [ne, if_neg Bool.false_ne_true]
  show (if PySem.W.kitMeta "ValueError" = true then PySem.W.subIn K (.ref A) (.type "ValueError") else none) = some b
  rw [if_pos (by decide +kernel)]
  exact h
end SH
set_option Elab.async false
set_option linter.all false
set_option maxRecDepth 100000
set_option maxHeartbeats 4000000
namespace SH
open PySem PySem.Spec PyProof.Rows L2
/-! comprehensions whose steps only add to the heap: RL tells what the list made so far is -/
/-- all but what stands at D is as it was -/
def But (D : Addr) (H H' : Hp) : Prop := ∀ b o, b ≠ D → H b = some o → H' b = some o
theorem but_upd {D : Addr} {H : Hp} {o : HO} : But D H (upd H D o) := fun b x n e => by
  rw [upd_ne n]
  exact e
theorem but_tup {K : PySem.W.Frag} {D t : Addr} {H H' : Hp} {l xs : List V} (hD : H D = some (.lst l)) (e : But D H H') (h : SqT K H t xs) : SqT K H' t xs := by
  rcases h with h | h
  · rcases h with h | h
    · refine Or.inl (Or.inl (e _ _ (fun z => ?_) h))
      rw [z, hD] at h
      cases h
    · obtain ⟨o, h⟩ := h
      refine Or.inl (Or.inr ⟨o, e _ _ (fun z => ?_) h⟩)
      rw [z, hD] at h
      cases h
  · exact Or.inr h
theorem but_pairs {K : PySem.W.Frag} {D : Addr} {H H' : Hp} {l : List V} {L : PL} (hD : H D = some (.lst l)) (e : But D H H') (h : PairsAt K H L) : PairsAt K H' L := fun q hq => but_tup hD e (h q hq)
section
variable {J : It} {n : Nat} {G : Hp → Prop} {Y : Nat → Hp → V → Hp → Prop}
theorem lc_w (w : Walk J n G Y) {g : TG} {tt : TT} {te : TE} {vs : List Nat} {τ : L2.St} {H1 : Hp} {D : Addr} {Qd : Hp → Prop} (hD : H1 D = none) (hn : n ≤ 100000) (hG : ∀ H, Same H1 H → G H)
    (RL : Nat → List V → Hp → Prop) (h0 : ∀ H, Same H1 H → RL 0 [] H) (mono : ∀ i acc H H' l, H D = some (.lst l) → But D H H' → RL i acc H → RL i acc H')
    (hY : ∀ i H x H', Y i H x H' → Same H H')
    (hs : ∀ (i : Nat) (x : V) (acc : List V) (H H' : Hp) (Qn : VK) (Qf : Hp → Prop), i < n → Same H1 H' → Y i H x H' → RL i acc H' → H' D = some (.lst acc) → (∀ y H4, Same H' H4 → RL (i + 1) (acc ++ [y]) H4 → Qn y H4) → (∀ H3, Same H' H3 → RL (i + 1) acc H3 → Qf H3) →
      g x (wipe τ vs) H' fun τ2 H2 => wipe τ2 vs = wipe τ vs ∧ tt τ2 H2 fun b H3 => if b = true then te τ2 H3 Qn else Qf H3)
    (hd : ∀ acc H, Same H1 H → H D = some (.lst acc) → acc.length ≤ n → RL n acc H → Qd H) :
    ∃ W : Nat → Nat → Hp → Prop, (∃ m, W 0 m (upd H1 D (.lst []))) ∧ ∀ i m H, W i m H →
      (J.stop i H ∧ Qd H) ∨ (J.go i H ∧ ∃ Nx : Hp → Prop, (∀ H', Nx H' → ∃ m', m' < m ∧ W (i + 1) m' H') ∧ ∀ x H', J.yld i H x H' → g x (wipe τ vs) H' fun τ2 H2 => wipe τ2 vs = wipe τ vs ∧ tt τ2 H2 fun b H3 =>
        if b = true then te τ2 H3 fun y H4 => ∃ acc, H4 D = some (.lst acc) ∧ acc.length < sizeLine ∧ Nx (upd H4 D (.lst (acc ++ [y]))) else Nx H3) := by
  refine lc_it w (fun i H => ∃ acc, Same H1 H ∧ H D = some (.lst acc) ∧ acc.length ≤ i ∧ RL i acc H) ⟨[], same_new hD, upd_same, Nat.le_refl _, h0 _ (same_new hD)⟩ (fun i H _ p => ?_) (fun i x H H' hi p y => ?_) (fun H p => ?_)
  · obtain ⟨acc, e, _⟩ := p
    exact hG H e
  · obtain ⟨acc, e, at_, hl, r⟩ := p
    have e1 := hY i H x H' y
    have at1 := e1 _ _ at_
    refine hs i x acc H H' _ _ hi (e.trans e1) y (mono i acc H H' acc at_ (fun b o _ h => e1 b o h) r) at1 (fun z H4 e2 r2 => ?_) (fun H3 e2 r2 => ?_)
    · have at2 := e2 _ _ at1
      refine ⟨acc, at2, Nat.lt_of_le_of_lt (Nat.le_trans hl (Nat.le_of_lt (Nat.lt_of_lt_of_le hi hn))) (by decide), acc ++ [z], same_mut ((e.trans e1).trans e2) hD, upd_same, by simp; omega, mono _ _ H4 _ acc at2 but_upd r2⟩
    · exact ⟨acc, (e.trans e1).trans e2, e2 _ _ at1, by omega, r2⟩
  · obtain ⟨acc, e, at_, hl, r⟩ := p
    exact hd acc H e at_ hl r
end
/-! ### numbers and texts -/
theorem lt1 (c d : Nat) : decide (([c] : List Nat) < [d]) = decide (c < d) := by
  by_cases h : c < d
  · rw [decide_eq_true h]
    exact decide_eq_true (List.Lex.rel h)
  · rw [decide_eq_false h]
    refine decide_eq_false fun z => ?_
    cases z with
    | rel q => exact h q
    | cons q => cases q
/-- a text of the document: not too long, of letters -/
def isTxt (z : Str) : Bool := decide (z.length ≤ 40) && z.cps.toList.all okc
/-- a house of the document, behind a number -/
def chk (before : Int) : List (Int × Str) → Bool
  | [] => true
  | q :: r => decide (before < q.1) && decide (q.1 ≤ 99) && isTxt q.2 && chk q.1 r
def isH (h : List (Int × Str)) : Bool := decide (h.length ≤ 8) && chk (-1) h
theorem chk_of {m : Nat} (hm : m ≤ 40) : ∀ (h : List (Int × Str)) (b : Int), (∀ q ∈ h, b < q.1) → IsHs m h → chk b h = true
  | [], _, _, _ => rfl
  | q :: r, b, hb, a => by
    have t := a.txt q (List.mem_cons_self ..)
    have n := a.num q (List.mem_cons_self ..)
    have asc := a.asc
    rw [List.map_cons, List.pairwise_cons] at asc
    have ih := chk_of hm r q.1 (fun x hx => asc.1 x.1 (List.mem_map_of_mem hx)) ⟨asc.2, fun x hx => a.num x (List.mem_cons_of_mem _ hx), fun x hx => a.txt x (List.mem_cons_of_mem _ hx)⟩
    show (decide (b < q.1) && decide (q.1 ≤ 99) && isTxt q.2 && chk q.1 r) = true
    have e1 := hb q (List.mem_cons_self ..)
    have e2 : isTxt q.2 = true := by
      unfold isTxt
      rw [decide_eq_true (Nat.le_trans t.2 hm)]
      exact t.1
    rw [ih, e2, decide_eq_true e1, decide_eq_true n.2]
    rfl
end SH
set_option Elab.async false
set_option linter.all false
set_option maxRecDepth 100000
set_option maxHeartbeats 4000000
namespace SH
open PySem PySem.Spec PyProof.Rows L2
def topS (i : Nat) : Stmt := PySem.Challenge.pw_suffixhouse_k06_errors_are_apart.main.body.getD i (.Pass ⟨0, 0, 0, 0⟩)
abbrev s__law_first : Stmt := topS 12
abbrev s__law_second : Stmt := topS 13
abbrev s__law_kinds : Stmt := topS 14
abbrev s_law : Stmt := topS 15
structure Ea where
  fI : Addr
  c_HouseError : Addr
  c_BadLine : Addr
  c_BadText : Addr
  c_WrongOrder : Addr
  c_TooMany : Addr
  c_TakenNumber : Addr
  c_NoText : Addr
  c_OutOfRange : Addr
  c_BadStep : Addr
  c_NoChange : Addr
abbrev s_init : Stmt := inClass (topS 1) 0
structure Txt (K : PySem.W.Frag) (mg : Str → Option Value) (ea : Ea) : Prop where
  b_ValueError : mg "ValueError" = none
  b_bool : mg "bool" = none
  b_int : mg "int" = none
  b_isinstance : mg "isinstance" = none
  b_len : mg "len" = none
  b_range : mg "range" = none
  d__law_first : Dd K mg "_law_first" s__law_first ["k", "n"]
  d__law_second : Dd K mg "_law_second" s__law_second ["k", "n"]
  d__law_kinds : Dd K mg "_law_kinds" s__law_kinds ["e"]
  d_law : Dd K mg "law" s_law ["script"]
  init : DdI K "HouseError.__init__" s_init ea.fI
  x_HouseError : ErrC K mg "HouseError" ea.c_HouseError ea.fI
  x_BadLine : ErrC K mg "BadLine" ea.c_BadLine ea.fI
  x_BadText : ErrC K mg "BadText" ea.c_BadText ea.fI
  x_WrongOrder : ErrC K mg "WrongOrder" ea.c_WrongOrder ea.fI
  x_TooMany : ErrC K mg "TooMany" ea.c_TooMany ea.fI
  x_TakenNumber : ErrC K mg "TakenNumber" ea.c_TakenNumber ea.fI
  x_NoText : ErrC K mg "NoText" ea.c_NoText ea.fI
  x_OutOfRange : ErrC K mg "OutOfRange" ea.c_OutOfRange ea.fI
  x_BadStep : ErrC K mg "BadStep" ea.c_BadStep ea.fI
  x_NoChange : ErrC K mg "NoChange" ea.c_NoChange ea.fI
  v_HouseError : ExcC K ea.c_HouseError
  iv_HouseError : PySem.W.kitOne K (.ref ea.c_HouseError) (.type "ValueError") = some true
  v_BadLine : ExcC K ea.c_BadLine
  iv_BadLine : PySem.W.kitOne K (.ref ea.c_BadLine) (.type "ValueError") = some true
  v_BadText : ExcC K ea.c_BadText
  iv_BadText : PySem.W.kitOne K (.ref ea.c_BadText) (.type "ValueError") = some true
  v_WrongOrder : ExcC K ea.c_WrongOrder
  iv_WrongOrder : PySem.W.kitOne K (.ref ea.c_WrongOrder) (.type "ValueError") = some true
  v_TooMany : ExcC K ea.c_TooMany
  iv_TooMany : PySem.W.kitOne K (.ref ea.c_TooMany) (.type "ValueError") = some true
  v_TakenNumber : ExcC K ea.c_TakenNumber
  iv_TakenNumber : PySem.W.kitOne K (.ref ea.c_TakenNumber) (.type "ValueError") = some true
  v_NoText : ExcC K ea.c_NoText
  iv_NoText : PySem.W.kitOne K (.ref ea.c_NoText) (.type "ValueError") = some true
  v_OutOfRange : ExcC K ea.c_OutOfRange
  iv_OutOfRange : PySem.W.kitOne K (.ref ea.c_OutOfRange) (.type "ValueError") = some true
  v_BadStep : ExcC K ea.c_BadStep
  iv_BadStep : PySem.W.kitOne K (.ref ea.c_BadStep) (.type "ValueError") = some true
  v_NoChange : ExcC K ea.c_NoChange
  iv_NoChange : PySem.W.kitOne K (.ref ea.c_NoChange) (.type "ValueError") = some true
  i_HouseError_HouseError : PySem.W.kitOne K (.ref ea.c_HouseError) (.ref ea.c_HouseError) = some true
  i_HouseError_BadLine : PySem.W.kitOne K (.ref ea.c_HouseError) (.ref ea.c_BadLine) = some false
  i_HouseError_BadText : PySem.W.kitOne K (.ref ea.c_HouseError) (.ref ea.c_BadText) = some false
  i_HouseError_WrongOrder : PySem.W.kitOne K (.ref ea.c_HouseError) (.ref ea.c_WrongOrder) = some false
  i_HouseError_TooMany : PySem.W.kitOne K (.ref ea.c_HouseError) (.ref ea.c_TooMany) = some false
  i_HouseError_TakenNumber : PySem.W.kitOne K (.ref ea.c_HouseError) (.ref ea.c_TakenNumber) = some false
  i_HouseError_NoText : PySem.W.kitOne K (.ref ea.c_HouseError) (.ref ea.c_NoText) = some false
  i_HouseError_OutOfRange : PySem.W.kitOne K (.ref ea.c_HouseError) (.ref ea.c_OutOfRange) = some false
  i_HouseError_BadStep : PySem.W.kitOne K (.ref ea.c_HouseError) (.ref ea.c_BadStep) = some false
  i_HouseError_NoChange : PySem.W.kitOne K (.ref ea.c_HouseError) (.ref ea.c_NoChange) = some false
  i_BadLine_HouseError : PySem.W.kitOne K (.ref ea.c_BadLine) (.ref ea.c_HouseError) = some true
  i_BadLine_BadLine : PySem.W.kitOne K (.ref ea.c_BadLine) (.ref ea.c_BadLine) = some true
  i_BadLine_BadText : PySem.W.kitOne K (.ref ea.c_BadLine) (.ref ea.c_BadText) = some false
  i_BadLine_WrongOrder : PySem.W.kitOne K (.ref ea.c_BadLine) (.ref ea.c_WrongOrder) = some false
  i_BadLine_TooMany : PySem.W.kitOne K (.ref ea.c_BadLine) (.ref ea.c_TooMany) = some false
  i_BadLine_TakenNumber : PySem.W.kitOne K (.ref ea.c_BadLine) (.ref ea.c_TakenNumber) = some false
  i_BadLine_NoText : PySem.W.kitOne K (.ref ea.c_BadLine) (.ref ea.c_NoText) = some false
  i_BadLine_OutOfRange : PySem.W.kitOne K (.ref ea.c_BadLine) (.ref ea.c_OutOfRange) = some false
  i_BadLine_BadStep : PySem.W.kitOne K (.ref ea.c_BadLine) (.ref ea.c_BadStep) = some false
  i_BadLine_NoChange : PySem.W.kitOne K (.ref ea.c_BadLine) (.ref ea.c_NoChange) = some false
  i_BadText_HouseError : PySem.W.kitOne K (.ref ea.c_BadText) (.ref ea.c_HouseError) = some true
  i_BadText_BadLine : PySem.W.kitOne K (.ref ea.c_BadText) (.ref ea.c_BadLine) = some false
  i_BadText_BadText : PySem.W.kitOne K (.ref ea.c_BadText) (.ref ea.c_BadText) = some true
  i_BadText_WrongOrder : PySem.W.kitOne K (.ref ea.c_BadText) (.ref ea.c_WrongOrder) = some false
  i_BadText_TooMany : PySem.W.kitOne K (.ref ea.c_BadText) (.ref ea.c_TooMany) = some false
  i_BadText_TakenNumber : PySem.W.kitOne K (.ref ea.c_BadText) (.ref ea.c_TakenNumber) = some false
  i_BadText_NoText : PySem.W.kitOne K (.ref ea.c_BadText) (.ref ea.c_NoText) = some false
  i_BadText_OutOfRange : PySem.W.kitOne K (.ref ea.c_BadText) (.ref ea.c_OutOfRange) = some false
  i_BadText_BadStep : PySem.W.kitOne K (.ref ea.c_BadText) (.ref ea.c_BadStep) = some false
  i_BadText_NoChange : PySem.W.kitOne K (.ref ea.c_BadText) (.ref ea.c_NoChange) = some false
  i_WrongOrder_HouseError : PySem.W.kitOne K (.ref ea.c_WrongOrder) (.ref ea.c_HouseError) = some true
  i_WrongOrder_BadLine : PySem.W.kitOne K (.ref ea.c_WrongOrder) (.ref ea.c_BadLine) = some false
  i_WrongOrder_BadText : PySem.W.kitOne K (.ref ea.c_WrongOrder) (.ref ea.c_BadText) = some false
  i_WrongOrder_WrongOrder : PySem.W.kitOne K (.ref ea.c_WrongOrder) (.ref ea.c_WrongOrder) = some true
  i_WrongOrder_TooMany : PySem.W.kitOne K (.ref ea.c_WrongOrder) (.ref ea.c_TooMany) = some false
  i_WrongOrder_TakenNumber : PySem.W.kitOne K (.ref ea.c_WrongOrder) (.ref ea.c_TakenNumber) = some false
  i_WrongOrder_NoText : PySem.W.kitOne K (.ref ea.c_WrongOrder) (.ref ea.c_NoText) = some false
  i_WrongOrder_OutOfRange : PySem.W.kitOne K (.ref ea.c_WrongOrder) (.ref ea.c_OutOfRange) = some false
  i_WrongOrder_BadStep : PySem.W.kitOne K (.ref ea.c_WrongOrder) (.ref ea.c_BadStep) = some false
  i_WrongOrder_NoChange : PySem.W.kitOne K (.ref ea.c_WrongOrder) (.ref ea.c_NoChange) = some false
  i_TooMany_HouseError : PySem.W.kitOne K (.ref ea.c_TooMany) (.ref ea.c_HouseError) = some true
  i_TooMany_BadLine : PySem.W.kitOne K (.ref ea.c_TooMany) (.ref ea.c_BadLine) = some false
  i_TooMany_BadText : PySem.W.kitOne K (.ref ea.c_TooMany) (.ref ea.c_BadText) = some false
  i_TooMany_WrongOrder : PySem.W.kitOne K (.ref ea.c_TooMany) (.ref ea.c_WrongOrder) = some false
  i_TooMany_TooMany : PySem.W.kitOne K (.ref ea.c_TooMany) (.ref ea.c_TooMany) = some true
  i_TooMany_TakenNumber : PySem.W.kitOne K (.ref ea.c_TooMany) (.ref ea.c_TakenNumber) = some false
  i_TooMany_NoText : PySem.W.kitOne K (.ref ea.c_TooMany) (.ref ea.c_NoText) = some false
  i_TooMany_OutOfRange : PySem.W.kitOne K (.ref ea.c_TooMany) (.ref ea.c_OutOfRange) = some false
  i_TooMany_BadStep : PySem.W.kitOne K (.ref ea.c_TooMany) (.ref ea.c_BadStep) = some false
  i_TooMany_NoChange : PySem.W.kitOne K (.ref ea.c_TooMany) (.ref ea.c_NoChange) = some false
  i_TakenNumber_HouseError : PySem.W.kitOne K (.ref ea.c_TakenNumber) (.ref ea.c_HouseError) = some true
  i_TakenNumber_BadLine : PySem.W.kitOne K (.ref ea.c_TakenNumber) (.ref ea.c_BadLine) = some false
  i_TakenNumber_BadText : PySem.W.kitOne K (.ref ea.c_TakenNumber) (.ref ea.c_BadText) = some false
  i_TakenNumber_WrongOrder : PySem.W.kitOne K (.ref ea.c_TakenNumber) (.ref ea.c_WrongOrder) = some false
  i_TakenNumber_TooMany : PySem.W.kitOne K (.ref ea.c_TakenNumber) (.ref ea.c_TooMany) = some false
  i_TakenNumber_TakenNumber : PySem.W.kitOne K (.ref ea.c_TakenNumber) (.ref ea.c_TakenNumber) = some true
  i_TakenNumber_NoText : PySem.W.kitOne K (.ref ea.c_TakenNumber) (.ref ea.c_NoText) = some false
  i_TakenNumber_OutOfRange : PySem.W.kitOne K (.ref ea.c_TakenNumber) (.ref ea.c_OutOfRange) = some false
  i_TakenNumber_BadStep : PySem.W.kitOne K (.ref ea.c_TakenNumber) (.ref ea.c_BadStep) = some false
  i_TakenNumber_NoChange : PySem.W.kitOne K (.ref ea.c_TakenNumber) (.ref ea.c_NoChange) = some false
  i_NoText_HouseError : PySem.W.kitOne K (.ref ea.c_NoText) (.ref ea.c_HouseError) = some true
  i_NoText_BadLine : PySem.W.kitOne K (.ref ea.c_NoText) (.ref ea.c_BadLine) = some false
  i_NoText_BadText : PySem.W.kitOne K (.ref ea.c_NoText) (.ref ea.c_BadText) = some false
  i_NoText_WrongOrder : PySem.W.kitOne K (.ref ea.c_NoText) (.ref ea.c_WrongOrder) = some false
  i_NoText_TooMany : PySem.W.kitOne K (.ref ea.c_NoText) (.ref ea.c_TooMany) = some false
  i_NoText_TakenNumber : PySem.W.kitOne K (.ref ea.c_NoText) (.ref ea.c_TakenNumber) = some false
  i_NoText_NoText : PySem.W.kitOne K (.ref ea.c_NoText) (.ref ea.c_NoText) = some true
  i_NoText_OutOfRange : PySem.W.kitOne K (.ref ea.c_NoText) (.ref ea.c_OutOfRange) = some false
  i_NoText_BadStep : PySem.W.kitOne K (.ref ea.c_NoText) (.ref ea.c_BadStep) = some false
  i_NoText_NoChange : PySem.W.kitOne K (.ref ea.c_NoText) (.ref ea.c_NoChange) = some false
  i_OutOfRange_HouseError : PySem.W.kitOne K (.ref ea.c_OutOfRange) (.ref ea.c_HouseError) = some true
  i_OutOfRange_BadLine : PySem.W.kitOne K (.ref ea.c_OutOfRange) (.ref ea.c_BadLine) = some false
  i_OutOfRange_BadText : PySem.W.kitOne K (.ref ea.c_OutOfRange) (.ref ea.c_BadText) = some false
  i_OutOfRange_WrongOrder : PySem.W.kitOne K (.ref ea.c_OutOfRange) (.ref ea.c_WrongOrder) = some false
  i_OutOfRange_TooMany : PySem.W.kitOne K (.ref ea.c_OutOfRange) (.ref ea.c_TooMany) = some false
  i_OutOfRange_TakenNumber : PySem.W.kitOne K (.ref ea.c_OutOfRange) (.ref ea.c_TakenNumber) = some false
  i_OutOfRange_NoText : PySem.W.kitOne K (.ref ea.c_OutOfRange) (.ref ea.c_NoText) = some false
  i_OutOfRange_OutOfRange : PySem.W.kitOne K (.ref ea.c_OutOfRange) (.ref ea.c_OutOfRange) = some true
  i_OutOfRange_BadStep : PySem.W.kitOne K (.ref ea.c_OutOfRange) (.ref ea.c_BadStep) = some false
  i_OutOfRange_NoChange : PySem.W.kitOne K (.ref ea.c_OutOfRange) (.ref ea.c_NoChange) = some false
  i_BadStep_HouseError : PySem.W.kitOne K (.ref ea.c_BadStep) (.ref ea.c_HouseError) = some true
  i_BadStep_BadLine : PySem.W.kitOne K (.ref ea.c_BadStep) (.ref ea.c_BadLine) = some false
  i_BadStep_BadText : PySem.W.kitOne K (.ref ea.c_BadStep) (.ref ea.c_BadText) = some false
  i_BadStep_WrongOrder : PySem.W.kitOne K (.ref ea.c_BadStep) (.ref ea.c_WrongOrder) = some false
  i_BadStep_TooMany : PySem.W.kitOne K (.ref ea.c_BadStep) (.ref ea.c_TooMany) = some false
  i_BadStep_TakenNumber : PySem.W.kitOne K (.ref ea.c_BadStep) (.ref ea.c_TakenNumber) = some false
  i_BadStep_NoText : PySem.W.kitOne K (.ref ea.c_BadStep) (.ref ea.c_NoText) = some false
  i_BadStep_OutOfRange : PySem.W.kitOne K (.ref ea.c_BadStep) (.ref ea.c_OutOfRange) = some false
  i_BadStep_BadStep : PySem.W.kitOne K (.ref ea.c_BadStep) (.ref ea.c_BadStep) = some true
  i_BadStep_NoChange : PySem.W.kitOne K (.ref ea.c_BadStep) (.ref ea.c_NoChange) = some false
  i_NoChange_HouseError : PySem.W.kitOne K (.ref ea.c_NoChange) (.ref ea.c_HouseError) = some true
  i_NoChange_BadLine : PySem.W.kitOne K (.ref ea.c_NoChange) (.ref ea.c_BadLine) = some false
  i_NoChange_BadText : PySem.W.kitOne K (.ref ea.c_NoChange) (.ref ea.c_BadText) = some false
  i_NoChange_WrongOrder : PySem.W.kitOne K (.ref ea.c_NoChange) (.ref ea.c_WrongOrder) = some false
  i_NoChange_TooMany : PySem.W.kitOne K (.ref ea.c_NoChange) (.ref ea.c_TooMany) = some false
  i_NoChange_TakenNumber : PySem.W.kitOne K (.ref ea.c_NoChange) (.ref ea.c_TakenNumber) = some false
  i_NoChange_NoText : PySem.W.kitOne K (.ref ea.c_NoChange) (.ref ea.c_NoText) = some false
  i_NoChange_OutOfRange : PySem.W.kitOne K (.ref ea.c_NoChange) (.ref ea.c_OutOfRange) = some false
  i_NoChange_BadStep : PySem.W.kitOne K (.ref ea.c_NoChange) (.ref ea.c_BadStep) = some false
  i_NoChange_NoChange : PySem.W.kitOne K (.ref ea.c_NoChange) (.ref ea.c_NoChange) = some true
section
variable {P : Program} {w : World} {K : PySem.W.Frag} {mg : Str → Option Value} {base : Heap} {ea : Ea}
theorem sc_init : FnScope ["self", "at"] ["self", "at"] (defScope s_init) := ⟨rfl, rfl, rfl, by decide +kernel, rfl, by decide +kernel, by decide +kernel⟩
theorem ok_init (T : Txt K mg ea) : InitOk P w K mg base ea.fI := by
  obtain ⟨fd, F, b, t⟩ := T.init.ex
  refine ⟨fd, F.ok sc_init (fun vs H Q E h => ?_) (fun cdv A outer s H vs Q E hr h => ?_), b, t⟩
  · obtain ⟨a, C, n, rfl, _⟩ := h
    rfl
  · obtain ⟨a, C, n, rfl, To, Tn, hs, ha, q⟩ := h
    refine ⟨_, pss_cons (ps_ost (pv 0) (pv 1)) (pss_one (ps_if (pt_cmpR op_gt (pe_bits (pv 1)) pe_int (nomark _)) pss_never pss_nil)), ?_⟩
    refine ⟨_, rfl, _, rfl, a, C, rfl, To, Tn, .inl ⟨ha, fun dx n1 n2 => ?_⟩⟩
    refine ⟨_, rfl, n, rfl, _, _, rfl, rfl, _, rfl, ?_⟩
    rw [small_bits hs]
    exact iteF (q dx n1 n2)
end

section
variable {P : Program} {w : World} {K : PySem.W.Frag} {mg : Str → Option Value} {base : Heap} {ea : Ea}
/-- the k-th class -/
def kth (ea : Ea) (k : Int) : Addr := if k = 0 then ea.c_BadLine else if k = 1 then ea.c_BadText else if k = 2 then ea.c_WrongOrder else if k = 3 then ea.c_TooMany else if k = 4 then ea.c_TakenNumber
  else if k = 5 then ea.c_NoText else if k = 6 then ea.c_OutOfRange else if k = 7 then ea.c_BadStep else ea.c_NoChange
def spPick (ea : Ea) (lo hi : Int) : Sp := fun vs H Q _ => ∃ (k n : Int), vs = [.int k, .int n] ∧ Small n ∧ 0 ≤ k ∧ k < 9 ∧ ((lo ≤ k ∧ k ≤ hi) → ∀ (a : Addr) (H2 : Hp), Same H H2 → ExvAt H2 a (kth ea k) n → Q (.ref a) H2) ∧ (¬ (lo ≤ k ∧ k ≤ hi) → Q .non H)
theorem sc__law_first : FnScope ["k", "n"] ["k", "n"] (defScope s__law_first) := ⟨rfl, rfl, rfl, by decide +kernel, rfl, by decide +kernel, by decide +kernel⟩
theorem ok__law_first (T : Txt K mg ea) : Cl P w K mg base 3 "_law_first" (spPick ea 0 4) := by
  have nd := sc__law_first.nd
  refine cl_of T.d__law_first sc__law_first (fun vs H Q E h => ?_) (fun f cdv A outer s H vs Q E hr h => ?_)
  · obtain ⟨k, n, rfl, _⟩ := h
    rfl
  · obtain ⟨k, n, rfl, hs, k0, k1, q, q2⟩ := h
    refine ⟨_, (pss_cons (ps_if (pt_cmpR op_eq (pv 0) pe_int (nomark _))
        (pss_one (ps_ret (pe_mkv T.x_BadLine (ok_init T) hr (by decide) (by rfl) (pa_cons (pv 1) pa_nil))))
        pss_nil)
      (pss_cons (ps_if (pt_cmpR op_eq (pv 0) pe_int (nomark _))
        (pss_one (ps_ret (pe_mkv T.x_BadText (ok_init T) hr (by decide) (by rfl) (pa_cons (pv 1) pa_nil))))
        pss_nil)
      (pss_cons (ps_if (pt_cmpR op_eq (pv 0) pe_int (nomark _))
        (pss_one (ps_ret (pe_mkv T.x_WrongOrder (ok_init T) hr (by decide) (by rfl) (pa_cons (pv 1) pa_nil))))
        pss_nil)
      (pss_cons (ps_if (pt_cmpR op_eq (pv 0) pe_int (nomark _))
        (pss_one (ps_ret (pe_mkv T.x_TooMany (ok_init T) hr (by decide) (by rfl) (pa_cons (pv 1) pa_nil))))
        pss_nil)
      (pss_cons (ps_if (pt_cmpR op_eq (pv 0) pe_int (nomark _))
        (pss_one (ps_ret (pe_mkv T.x_TakenNumber (ok_init T) hr (by decide) (by rfl) (pa_cons (pv 1) pa_nil))))
        pss_nil)
      (pss_one (ps_ret pe_non))))))), ?_⟩
    have ne : ∀ {j : Int}, ¬ decide (V.int k = V.int j) = true → k ≠ j := fun {j} e z => e (decide_eq_true (by rw [z]))
    have eq : ∀ {j : Int}, decide (V.int k = V.int j) = true → k = j := fun {j} e => by have := of_decide_eq_true e; injection this
    refine ⟨_, rfl, rfl, _, rfl, ite2 (fun e => ?_) (fun e0 => ?_)⟩
    · have e' := eq e; subst e'
      exact ⟨_, rfl, n, rfl, hs, q (by omega)⟩
    refine ⟨_, rfl, rfl, _, rfl, ite2 (fun e => ?_) (fun e1 => ?_)⟩
    · have e' := eq e; subst e'
      exact ⟨_, rfl, n, rfl, hs, q (by omega)⟩
    refine ⟨_, rfl, rfl, _, rfl, ite2 (fun e => ?_) (fun e2 => ?_)⟩
    · have e' := eq e; subst e'
      exact ⟨_, rfl, n, rfl, hs, q (by omega)⟩
    refine ⟨_, rfl, rfl, _, rfl, ite2 (fun e => ?_) (fun e3 => ?_)⟩
    · have e' := eq e; subst e'
      exact ⟨_, rfl, n, rfl, hs, q (by omega)⟩
    refine ⟨_, rfl, rfl, _, rfl, ite2 (fun e => ?_) (fun e4 => ?_)⟩
    · have e' := eq e; subst e'
      exact ⟨_, rfl, n, rfl, hs, q (by omega)⟩
    exact q2 (by have := ne e0; have := ne e1; have := ne e2; have := ne e3; have := ne e4; omega)
theorem sc__law_second : FnScope ["k", "n"] ["k", "n"] (defScope s__law_second) := ⟨rfl, rfl, rfl, by decide +kernel, rfl, by decide +kernel, by decide +kernel⟩
theorem ok__law_second (T : Txt K mg ea) : Cl P w K mg base 3 "_law_second" (spPick ea 5 8) := by
  have nd := sc__law_second.nd
  refine cl_of T.d__law_second sc__law_second (fun vs H Q E h => ?_) (fun f cdv A outer s H vs Q E hr h => ?_)
  · obtain ⟨k, n, rfl, _⟩ := h
    rfl
  · obtain ⟨k, n, rfl, hs, k0, k1, q, q2⟩ := h
    refine ⟨_, (pss_cons (ps_if (pt_cmpR op_eq (pv 0) pe_int (nomark _))
        (pss_one (ps_ret (pe_mkv T.x_NoText (ok_init T) hr (by decide) (by rfl) (pa_cons (pv 1) pa_nil))))
        pss_nil)
      (pss_cons (ps_if (pt_cmpR op_eq (pv 0) pe_int (nomark _))
        (pss_one (ps_ret (pe_mkv T.x_OutOfRange (ok_init T) hr (by decide) (by rfl) (pa_cons (pv 1) pa_nil))))
        pss_nil)
      (pss_cons (ps_if (pt_cmpR op_eq (pv 0) pe_int (nomark _))
        (pss_one (ps_ret (pe_mkv T.x_BadStep (ok_init T) hr (by decide) (by rfl) (pa_cons (pv 1) pa_nil))))
        pss_nil)
      (pss_cons (ps_if (pt_cmpR op_eq (pv 0) pe_int (nomark _))
        (pss_one (ps_ret (pe_mkv T.x_NoChange (ok_init T) hr (by decide) (by rfl) (pa_cons (pv 1) pa_nil))))
        pss_nil)
      (pss_one (ps_ret pe_non)))))), ?_⟩
    have ne : ∀ {j : Int}, ¬ decide (V.int k = V.int j) = true → k ≠ j := fun {j} e z => e (decide_eq_true (by rw [z]))
    have eq : ∀ {j : Int}, decide (V.int k = V.int j) = true → k = j := fun {j} e => by have := of_decide_eq_true e; injection this
    refine ⟨_, rfl, rfl, _, rfl, ite2 (fun e => ?_) (fun e0 => ?_)⟩
    · have e' := eq e; subst e'
      exact ⟨_, rfl, n, rfl, hs, q (by omega)⟩
    refine ⟨_, rfl, rfl, _, rfl, ite2 (fun e => ?_) (fun e1 => ?_)⟩
    · have e' := eq e; subst e'
      exact ⟨_, rfl, n, rfl, hs, q (by omega)⟩
    refine ⟨_, rfl, rfl, _, rfl, ite2 (fun e => ?_) (fun e2 => ?_)⟩
    · have e' := eq e; subst e'
      exact ⟨_, rfl, n, rfl, hs, q (by omega)⟩
    refine ⟨_, rfl, rfl, _, rfl, ite2 (fun e => ?_) (fun e3 => ?_)⟩
    · have e' := eq e; subst e'
      exact ⟨_, rfl, n, rfl, hs, q (by omega)⟩
    exact q2 (by have := ne e0; have := ne e1; have := ne e2; have := ne e3; omega)
/-- the j-th class, the base as the tenth -/
def kthB (ea : Ea) (j : Int) : Addr := if j = 9 then ea.c_HouseError else kth ea j
/-- what is known of the j-th class -/
structure Kf (K : PySem.W.Frag) (ea : Ea) (C : Addr) (j : Int) : Prop where
  v : ExcC K C
  f : XfC K C
  no : PySem.W.findIn K (.ref C) "at" = some none
  hb : PySem.W.kitOne K (.ref C) (.ref ea.c_HouseError) = some true
  hv : PySem.W.kitOne K (.ref C) (.type "ValueError") = some true
  k0 : PySem.W.kitOne K (.ref C) (.ref ea.c_BadLine) = some (decide ((0 : Int) = j))
  k1 : PySem.W.kitOne K (.ref C) (.ref ea.c_BadText) = some (decide ((1 : Int) = j))
  k2 : PySem.W.kitOne K (.ref C) (.ref ea.c_WrongOrder) = some (decide ((2 : Int) = j))
  k3 : PySem.W.kitOne K (.ref C) (.ref ea.c_TooMany) = some (decide ((3 : Int) = j))
  k4 : PySem.W.kitOne K (.ref C) (.ref ea.c_TakenNumber) = some (decide ((4 : Int) = j))
  k5 : PySem.W.kitOne K (.ref C) (.ref ea.c_NoText) = some (decide ((5 : Int) = j))
  k6 : PySem.W.kitOne K (.ref C) (.ref ea.c_OutOfRange) = some (decide ((6 : Int) = j))
  k7 : PySem.W.kitOne K (.ref C) (.ref ea.c_BadStep) = some (decide ((7 : Int) = j))
  k8 : PySem.W.kitOne K (.ref C) (.ref ea.c_NoChange) = some (decide ((8 : Int) = j))
theorem kf_of (T : Txt K mg ea) {j : Int} (h0 : 0 ≤ j) (h1 : j ≤ 9) : Kf K ea (kthB ea j) j := by
  have c : j = 0 ∨ j = 1 ∨ j = 2 ∨ j = 3 ∨ j = 4 ∨ j = 5 ∨ j = 6 ∨ j = 7 ∨ j = 8 ∨ j = 9 := by omega
  rcases c with e | e | e | e | e | e | e | e | e | e <;> subst e
  · exact { v := T.v_BadLine, f := T.x_BadLine.f, no := T.x_BadLine.no, hb := T.i_BadLine_HouseError, hv := T.iv_BadLine, k0 := T.i_BadLine_BadLine, k1 := T.i_BadLine_BadText, k2 := T.i_BadLine_WrongOrder, k3 := T.i_BadLine_TooMany, k4 := T.i_BadLine_TakenNumber, k5 := T.i_BadLine_NoText, k6 := T.i_BadLine_OutOfRange, k7 := T.i_BadLine_BadStep, k8 := T.i_BadLine_NoChange }
  · exact { v := T.v_BadText, f := T.x_BadText.f, no := T.x_BadText.no, hb := T.i_BadText_HouseError, hv := T.iv_BadText, k0 := T.i_BadText_BadLine, k1 := T.i_BadText_BadText, k2 := T.i_BadText_WrongOrder, k3 := T.i_BadText_TooMany, k4 := T.i_BadText_TakenNumber, k5 := T.i_BadText_NoText, k6 := T.i_BadText_OutOfRange, k7 := T.i_BadText_BadStep, k8 := T.i_BadText_NoChange }
  · exact { v := T.v_WrongOrder, f := T.x_WrongOrder.f, no := T.x_WrongOrder.no, hb := T.i_WrongOrder_HouseError, hv := T.iv_WrongOrder, k0 := T.i_WrongOrder_BadLine, k1 := T.i_WrongOrder_BadText, k2 := T.i_WrongOrder_WrongOrder, k3 := T.i_WrongOrder_TooMany, k4 := T.i_WrongOrder_TakenNumber, k5 := T.i_WrongOrder_NoText, k6 := T.i_WrongOrder_OutOfRange, k7 := T.i_WrongOrder_BadStep, k8 := T.i_WrongOrder_NoChange }
  · exact { v := T.v_TooMany, f := T.x_TooMany.f, no := T.x_TooMany.no, hb := T.i_TooMany_HouseError, hv := T.iv_TooMany, k0 := T.i_TooMany_BadLine, k1 := T.i_TooMany_BadText, k2 := T.i_TooMany_WrongOrder, k3 := T.i_TooMany_TooMany, k4 := T.i_TooMany_TakenNumber, k5 := T.i_TooMany_NoText, k6 := T.i_TooMany_OutOfRange, k7 := T.i_TooMany_BadStep, k8 := T.i_TooMany_NoChange }
  · exact { v := T.v_TakenNumber, f := T.x_TakenNumber.f, no := T.x_TakenNumber.no, hb := T.i_TakenNumber_HouseError, hv := T.iv_TakenNumber, k0 := T.i_TakenNumber_BadLine, k1 := T.i_TakenNumber_BadText, k2 := T.i_TakenNumber_WrongOrder, k3 := T.i_TakenNumber_TooMany, k4 := T.i_TakenNumber_TakenNumber, k5 := T.i_TakenNumber_NoText, k6 := T.i_TakenNumber_OutOfRange, k7 := T.i_TakenNumber_BadStep, k8 := T.i_TakenNumber_NoChange }
  · exact { v := T.v_NoText, f := T.x_NoText.f, no := T.x_NoText.no, hb := T.i_NoText_HouseError, hv := T.iv_NoText, k0 := T.i_NoText_BadLine, k1 := T.i_NoText_BadText, k2 := T.i_NoText_WrongOrder, k3 := T.i_NoText_TooMany, k4 := T.i_NoText_TakenNumber, k5 := T.i_NoText_NoText, k6 := T.i_NoText_OutOfRange, k7 := T.i_NoText_BadStep, k8 := T.i_NoText_NoChange }
  · exact { v := T.v_OutOfRange, f := T.x_OutOfRange.f, no := T.x_OutOfRange.no, hb := T.i_OutOfRange_HouseError, hv := T.iv_OutOfRange, k0 := T.i_OutOfRange_BadLine, k1 := T.i_OutOfRange_BadText, k2 := T.i_OutOfRange_WrongOrder, k3 := T.i_OutOfRange_TooMany, k4 := T.i_OutOfRange_TakenNumber, k5 := T.i_OutOfRange_NoText, k6 := T.i_OutOfRange_OutOfRange, k7 := T.i_OutOfRange_BadStep, k8 := T.i_OutOfRange_NoChange }
  · exact { v := T.v_BadStep, f := T.x_BadStep.f, no := T.x_BadStep.no, hb := T.i_BadStep_HouseError, hv := T.iv_BadStep, k0 := T.i_BadStep_BadLine, k1 := T.i_BadStep_BadText, k2 := T.i_BadStep_WrongOrder, k3 := T.i_BadStep_TooMany, k4 := T.i_BadStep_TakenNumber, k5 := T.i_BadStep_NoText, k6 := T.i_BadStep_OutOfRange, k7 := T.i_BadStep_BadStep, k8 := T.i_BadStep_NoChange }
  · exact { v := T.v_NoChange, f := T.x_NoChange.f, no := T.x_NoChange.no, hb := T.i_NoChange_HouseError, hv := T.iv_NoChange, k0 := T.i_NoChange_BadLine, k1 := T.i_NoChange_BadText, k2 := T.i_NoChange_WrongOrder, k3 := T.i_NoChange_TooMany, k4 := T.i_NoChange_TakenNumber, k5 := T.i_NoChange_NoText, k6 := T.i_NoChange_OutOfRange, k7 := T.i_NoChange_BadStep, k8 := T.i_NoChange_NoChange }
  · exact { v := T.v_HouseError, f := T.x_HouseError.f, no := T.x_HouseError.no, hb := T.i_HouseError_HouseError, hv := T.iv_HouseError, k0 := T.i_HouseError_BadLine, k1 := T.i_HouseError_BadText, k2 := T.i_HouseError_WrongOrder, k3 := T.i_HouseError_TooMany, k4 := T.i_HouseError_TakenNumber, k5 := T.i_HouseError_NoText, k6 := T.i_HouseError_OutOfRange, k7 := T.i_HouseError_BadStep, k8 := T.i_HouseError_NoChange }
/-- which of the nine -/
def kinds (j : Int) : List Bool := [decide ((0 : Int) = j), decide ((1 : Int) = j), decide ((2 : Int) = j), decide ((3 : Int) = j), decide ((4 : Int) = j), decide ((5 : Int) = j), decide ((6 : Int) = j), decide ((7 : Int) = j), decide ((8 : Int) = j)]
theorem dp_bools {H : Hp} : ∀ bs : List Bool, DpAll K H (bs.map V.bl) (bs.map PyData.bool)
  | [] => .nil
  | b :: r => .cons (.bl b) (dp_bools r)
theorem bools_ok : ∀ bs : List Bool, PyData.canLayAll0 (bs.map PyData.bool) = true ∧ PyData.depthAll (bs.map PyData.bool) = 0
  | [] => ⟨rfl, rfl⟩
  | b :: r => by
    obtain ⟨a, c⟩ := bools_ok r
    rw [List.map_cons, PyData.canLayAll0, PyData.depthAll, a, c]
    exact ⟨rfl, rfl⟩
theorem bools_shaped (bs : List Bool) : SeqAt.shaped (.list (bs.map PyData.bool)) = true ∧ PyData.eqv (.list (bs.map PyData.bool)) (.list (bs.map PyData.bool)) = true := by
  obtain ⟨a, c⟩ := bools_ok bs
  have e1 : (PyData.list (bs.map PyData.bool)).canLay0 = true := a
  have e2 : (PyData.list (bs.map PyData.bool)).depth ≤ 64 := by
    show PyData.depthAll (bs.map PyData.bool) + 1 ≤ 64
    rw [c]
    decide
  refine ⟨?_, SeqAt.eqv_refl _ e1⟩
  unfold SeqAt.shaped
  rw [e1, decide_eq_true e2]
  rfl
def spKinds (K : PySem.W.Frag) (ea : Ea) : Sp := fun vs H Q _ => ∃ (a C : Addr) (n j : Int), vs = [.ref a] ∧ ExvAt H a C n ∧ Kf K ea C j ∧ ∀ (p : Addr) (H' : Hp), Same H H' → H' p = some (.lst ((kinds j).map V.bl)) → Q (.ref p) H'
theorem sc__law_kinds : FnScope ["e"] ["e"] (defScope s__law_kinds) := ⟨rfl, rfl, rfl, by decide +kernel, rfl, by decide +kernel, by decide +kernel⟩
theorem ok__law_kinds (T : Txt K mg ea) : Cl P w K mg base 1 "_law_kinds" (spKinds K ea) := by
  have nd := sc__law_kinds.nd
  refine cl_of T.d__law_kinds sc__law_kinds (fun vs H Q E h => ?_) (fun f cdv A outer s H vs Q E hr h => ?_)
  · obtain ⟨a, C, n, j, rfl, _⟩ := h
    rfl
  · obtain ⟨a, C, n, j, rfl, hE, F, q⟩ := h
    refine ⟨_, (pss_one (ps_ret (pe_lst (pa_cons (pe_callB call_isv (by rfl) T.b_isinstance (by decide +kernel) (pa_cons (pv 0) (pa_cons (pe_cls T.x_BadLine.g) pa_nil))) (pa_cons (pe_callB call_isv (by rfl) T.b_isinstance (by decide +kernel) (pa_cons (pv 0) (pa_cons (pe_cls T.x_BadText.g) pa_nil))) (pa_cons (pe_callB call_isv (by rfl) T.b_isinstance (by decide +kernel) (pa_cons (pv 0) (pa_cons (pe_cls T.x_WrongOrder.g) pa_nil))) (pa_cons (pe_callB call_isv (by rfl) T.b_isinstance (by decide +kernel) (pa_cons (pv 0) (pa_cons (pe_cls T.x_TooMany.g) pa_nil))) (pa_cons (pe_callB call_isv (by rfl) T.b_isinstance (by decide +kernel) (pa_cons (pv 0) (pa_cons (pe_cls T.x_TakenNumber.g) pa_nil))) (pa_cons (pe_callB call_isv (by rfl) T.b_isinstance (by decide +kernel) (pa_cons (pv 0) (pa_cons (pe_cls T.x_NoText.g) pa_nil))) (pa_cons (pe_callB call_isv (by rfl) T.b_isinstance (by decide +kernel) (pa_cons (pv 0) (pa_cons (pe_cls T.x_OutOfRange.g) pa_nil))) (pa_cons (pe_callB call_isv (by rfl) T.b_isinstance (by decide +kernel) (pa_cons (pv 0) (pa_cons (pe_cls T.x_BadStep.g) pa_nil))) (pa_cons (pe_callB call_isv (by rfl) T.b_isinstance (by decide +kernel) (pa_cons (pv 0) (pa_cons (pe_cls T.x_NoChange.g) pa_nil))) pa_nil)))))))))))), ?_⟩
    refine ⟨_, rfl, a, C, n, _, _, _, rfl, hE, .own _, F.v, F.k0, ?_⟩
    refine ⟨_, rfl, a, C, n, _, _, _, rfl, hE, .own _, F.v, F.k1, ?_⟩
    refine ⟨_, rfl, a, C, n, _, _, _, rfl, hE, .own _, F.v, F.k2, ?_⟩
    refine ⟨_, rfl, a, C, n, _, _, _, rfl, hE, .own _, F.v, F.k3, ?_⟩
    refine ⟨_, rfl, a, C, n, _, _, _, rfl, hE, .own _, F.v, F.k4, ?_⟩
    refine ⟨_, rfl, a, C, n, _, _, _, rfl, hE, .own _, F.v, F.k5, ?_⟩
    refine ⟨_, rfl, a, C, n, _, _, _, rfl, hE, .own _, F.v, F.k6, ?_⟩
    refine ⟨_, rfl, a, C, n, _, _, _, rfl, hE, .own _, F.v, F.k7, ?_⟩
    refine ⟨_, rfl, a, C, n, _, _, _, rfl, hE, .own _, F.v, F.k8, ?_⟩
    exact ⟨(by show 9 ≤ sizeLine; decide), fun p np => q p _ (same_new np) upd_same⟩
/-- the law: a list of at most 63 whole numbers, True -/
def spLaw (K : PySem.W.Frag) : Sp := fun vs H Q _ => ∃ (a : Addr) (ns : List Int), vs = [.ref a] ∧ SqL K H a (ns.map V.int) ∧ ns.length ≤ 63 ∧ ∀ H', Q (.bl true) H'
theorem sc_law : FnScope ["script", "number", "k", "e", "base", "j"] ["script"] (defScope s_law) := ⟨rfl, rfl, rfl, by decide +kernel, rfl, by decide +kernel, by decide +kernel⟩
theorem ok_law (T : Txt K mg ea) {f : Addr} {fd : FuncData} (F : Fun K "law" "law" s_law f fd) (c__law_first : Cl P w K mg base 3 "_law_first" (spPick ea 0 4)) (c__law_second : Cl P w K mg base 3 "_law_second" (spPick ea 5 8)) (c__law_kinds : Cl P w K mg base 1 "_law_kinds" (spKinds K ea)) :
    FnOk P w K mg base CX0 4 f fd ["script"] (spLaw K) := by
  have nd := sc_law.nd
  refine F.ok sc_law (fun vs H Q E h => ?_) (fun cdv A outer s H vs Q E hr h => ?_)
  · obtain ⟨a, ns, rfl, _⟩ := h
    rfl
  · obtain ⟨a, ns, rfl, hS, hl, q⟩ := h
    refine ⟨_, (pss_cons (ps_set (i := 1) nd rfl (.inl rfl) pe_int)
      (C8.pss_cut (ps_if (pt_cmpR op_gt (pe_callB call_len_seq (by rfl) T.b_len PySem.boot_len (pa_cons (pv 0) pa_nil)) pe_int (nomark _))
        (pss_one (ps_set (i := 1) nd rfl (.inl rfl) (pe_op op_sub (pe_op op_mod (pe_callTy call_int1 (by rfl) T.b_int (by decide +kernel) (pa_cons (pe_ix (ixl (K := K)) (pv 0) pe_int (fun _ _ => rfl)) pa_nil)) (pe_op op_pow pe_int pe_int)) (pe_op op_pow pe_int pe_int))))
        pss_nil)
      (pss_cons (ps_for PassesOwn.never rfl (pi_range1 rfl T.b_range (pa_cons pe_int pa_nil)) (pg_name (i := 2) nd rfl (.inr rfl))
        (C8.pss_cut (ps_set (i := 3) nd rfl (.inl rfl) (C8.pe_c c__law_first hr (by decide) (by rfl) (pa_cons (pv 2) (pa_cons (pe_op op_add (pv 1) (pv 2)) pa_nil))))
          (C8.pss_cut (ps_if (pt_cmpR op_ge (pv 2) pe_int (nomark _))
            (pss_one (ps_set (i := 3) nd rfl (.inl rfl) (C8.pe_c c__law_second hr (by decide) (by rfl) (pa_cons (pv 2) (pa_cons (pe_op op_add (pv 1) (pv 2)) pa_nil)))))
            pss_nil)
          (pss_cons (ps_if (PW.pt (pw_or (pt_not (pt_val (pe_callB call_isv (by rfl) T.b_isinstance (by decide +kernel) (pa_cons (pv 3) (pa_cons (pe_cls T.x_HouseError.g) pa_nil))))) (pw_or1 (pt_not (pt_val (pe_callB call_isv (by rfl) T.b_isinstance (by decide +kernel) (pa_cons (pv 3) (pa_cons (pe_bltn (v := .ty "ValueError") (by rfl) T.b_ValueError (by decide +kernel) rfl) pa_nil))))))))
            (pss_one (ps_ret pe_bl))
            pss_nil)
          (pss_cons (ps_if (PW.pt (pw_or (pt_not (pt_val (pe_callB call_isi (by rfl) T.b_isinstance (by decide +kernel) (pa_cons (pe_atv (pv 3)) (pa_cons (pe_bltn (v := .ty "int") (by rfl) T.b_int (by decide +kernel) rfl) pa_nil))))) (pw_or (pt_val (pe_callB call_isi (by rfl) T.b_isinstance (by decide +kernel) (pa_cons (pe_atv (pv 3)) (pa_cons (pe_bltn (v := .ty "bool") (by rfl) T.b_bool (by decide +kernel) rfl) pa_nil)))) (pw_or1 (pt_cmpR op_ne (pe_atv (pv 3)) (pe_op op_add (pv 1) (pv 2)) (nomark _))))))
            (pss_one (ps_ret pe_bl))
            pss_nil)
          (pss_one (ps_if (pt_cmpR (op_neD hr.units) (C8.pe_c c__law_kinds hr (by decide) (by rfl) (pa_cons (pv 3) pa_nil)) (pe_lc (own := [("j", 5)]) (g := (gName 5)) rfl nd (pi_range1 rfl T.b_range (pa_cons pe_int pa_nil)) (blkOk_by (own := [("j", 5)]) (N := ["script", "number", "k", "e", "base", "j"]) (sc := defScope s_law) (by decide +kernel)) (fun _ _ _ _ _ => (pg_name (i := 5) nd rfl (.inl rfl))) (fun _ _ _ _ _ => pts_nil) (fun _ _ _ _ _ => (pe_cmpR op_eq (pv 5) (pv 2) (nomark _)))) (nomark _))
            (pss_one (ps_ret pe_bl))
            pss_nil)))))))
      (pss_cons (ps_set (i := 4) nd rfl (.inl rfl) (pe_mkv T.x_HouseError (ok_init T) hr (by decide) (by rfl) (pa_cons (pv 1) pa_nil)))
      (pss_one (ps_ret (pe_and (pe_cmpR op_eq (pe_atv (pv 4)) (pv 1) (nomark _)) (pe_one (pe_cmpR (op_eqD hr.units) (C8.pe_c c__law_kinds hr (by decide) (by rfl) (pa_cons (pv 4) pa_nil)) (pe_lc (own := [("j", 5)]) (g := (gName 5)) rfl nd (pi_range1 rfl T.b_range (pa_cons pe_int pa_nil)) (blkOk_by (own := [("j", 5)]) (N := ["script", "number", "k", "e", "base", "j"]) (sc := defScope s_law) (by decide +kernel)) (fun _ _ _ _ _ => (pg_name (i := 5) nd rfl (.inl rfl))) (fun _ _ _ _ _ => pts_nil) (fun _ _ _ _ _ => pe_bl)) (nomark _)))))))))), ?_⟩
    have ll : (ns.map V.int).length = ns.length := List.length_map ..
    -- the number
    refine ⟨fun σ' H' => H' = H ∧ ∃ n : Int, n.natAbs ≤ 10 ^ 31 ∧ σ' = [some (.ref a), some (.int n), none, none, none, none], ?_, ?_⟩
    · refine ⟨_, rfl, a, _, rfl, .inl hS, _, _, rfl, rfl, _, rfl, ite2 (fun e => ?_) (fun e => ⟨rfl, 0, by decide, rfl⟩)⟩
      have e1 := of_decide_eq_true e
      rw [ll] at e1
      obtain ⟨z, hz, _⟩ := at_ints (ns := ns) (i := 0) (by omega) e1
      refine ⟨_, rfl, a, _, _, _, rfl, rfl, hS, hz, .inl ⟨_, rfl, _, _, rfl, rfl, ⟨by decide, by decide, by decide⟩, _, _, rfl, rfl, (by show (0 : Int) < 10 ^ (30 : Int).toNat; decide), _, _, rfl, rfl, ⟨by decide, by decide, by decide⟩, _, _, rfl, rfl, rfl, _, ?_, rfl⟩⟩
      have p30 : (10 : Int) ^ (30 : Int).toNat = 1000000000000000000000000000000 := by decide
      have p15 : (10 : Int) ^ (15 : Int).toNat = 1000000000000000 := by decide
      rw [p30, p15]
      have h1 := Int.emod_nonneg z (show (1000000000000000000000000000000 : Int) ≠ 0 by decide)
      have h2 := Int.emod_lt_of_pos z (show (0 : Int) < 1000000000000000000000000000000 by decide)
      have h3 : (z % 1000000000000000000000000000000 - 1000000000000000).natAbs ≤ 10000000000000000000000000000000 := by omega
      exact h3
    rintro σ' H' ⟨rfl, n, hn, rfl⟩
    have small : ∀ i : Int, 0 ≤ i → i ≤ 9 → Small (n + i) := fun i i0 i1 => by
      have h3 : (n + i).natAbs ≤ 10 ^ 31 + 9 := by omega
      exact Nat.lt_of_le_of_lt h3 (by decide)
    -- the nine
    refine ⟨9, rfl, by decide, by decide, ?_⟩
    refine for_range (lo := 0) (n := 9) (fun i σ H2 => ∃ (y2 y3 : Option V), σ = [some (.ref a), some (.int n), y2, y3, none, none] ∧ Same H' H2)
      ⟨none, none, rfl, Same.refl _⟩ (fun i σ H2 hi hW => ?_) (fun σ H2 hW => ?_)
    · obtain ⟨y2, y3, rfl, sm⟩ := hW
      have i0 : (0 : Int) ≤ 0 + (i : Int) := by omega
      have i9 : 0 + (i : Int) < 9 := by omega
      have F : Kf K ea (kth ea (0 + (i : Int))) (0 + (i : Int)) := by
        have := kf_of T i0 (by omega)
        unfold kthB at this
        rwa [if_neg (by omega)] at this
      -- the first selector
      refine ⟨fun σ4 H4 => ∃ x : V, Same H' H4 ∧ σ4 = [some (.ref a), some (.int n), some (.int (0 + (i : Int))), some x, none, none] ∧ (0 + (i : Int) ≤ 4 → ∃ e : Addr, x = .ref e ∧ ExvAt H4 e (kth ea (0 + (i : Int))) (n + (0 + (i : Int)))), ?_, ?_⟩
      · refine ⟨_, rfl, _, rfl, _, rfl, _, _, rfl, rfl, 0 + (i : Int), n + (0 + (i : Int)), rfl, small _ i0 (by omega), i0, i9, fun c e H3 s3 hE => ?_, fun c => ?_⟩
        · exact ⟨_, sm.trans s3, rfl, fun _ => ⟨e, rfl, hE⟩⟩
        · exact ⟨_, sm, rfl, fun c2 => absurd ⟨i0, c2⟩ c⟩
      rintro σ4 H4 ⟨x, s4, rfl, hx⟩
      refine ⟨fun σ5 H5 => ∃ e : Addr, ExvAt H5 e (kth ea (0 + (i : Int))) (n + (0 + (i : Int))) ∧ Same H' H5 ∧ σ5 = [some (.ref a), some (.int n), some (.int (0 + (i : Int))), some (.ref e), none, none], ?_, ?_⟩
      · refine ⟨_, rfl, _, _, rfl, rfl, _, rfl, ite2 (fun z => ?_) (fun z => ?_)⟩
        · have z2 := of_decide_eq_true z
          exact ⟨_, rfl, _, rfl, _, rfl, _, _, rfl, rfl, 0 + (i : Int), n + (0 + (i : Int)), rfl, small _ i0 (by omega), i0, i9, fun _ e H3 s3 hE => ⟨e, hE, s4.trans s3, rfl⟩, fun c2 => absurd ⟨z2, by omega⟩ c2⟩
        · have z2 : ¬ (5 : Int) ≤ 0 + (i : Int) := fun y => z (decide_eq_true y)
          obtain ⟨e, rfl, hE⟩ := hx (by omega)
          exact ⟨e, hE, s4, rfl⟩
      rintro σ5 H5 ⟨e, hE, s5, rfl⟩
      generalize hk : 0 + (i : Int) = k at *
      -- its base classes
      refine ⟨_, rfl, e, _, _, _, _, _, rfl, hE, .own _, F.v, F.hb, _, rfl, iteF ?_⟩
      refine ⟨_, rfl, e, _, _, _, _, _, rfl, hE, .ty _, F.v, F.hv, _, rfl, iteF ?_⟩
      -- its number
      refine ⟨_, rfl, e, _, _, rfl, hE, F.f, F.no, _, _, _, _, _, rfl, .ty _, .base (.int _), kit_ty (b := "int") (r := true) (by decide +kernel), _, rfl, iteF ?_⟩
      refine ⟨_, rfl, e, _, _, rfl, hE, F.f, F.no, _, _, _, _, _, rfl, .ty _, .base (.int _), kit_ty (b := "bool") (r := false) (by decide +kernel), _, rfl, iteF ?_⟩
      refine ⟨_, rfl, e, _, _, rfl, hE, F.f, F.no, _, rfl, _, rfl, _, _, rfl, rfl, rfl, _, rfl, iteNS rfl ?_⟩
      -- its kinds
      refine ⟨_, rfl, e, _, _, k, rfl, hE, F, fun p H6 s6 at6 => ?_⟩
      refine ⟨9, rfl, by decide, by decide, fun D hD => ?_⟩
      refine lc_w (walk_range (lo := 0) (n := 9)) hD (by decide) (fun _ _ => trivial) (fun j acc _ => acc = ((List.range j).map fun (m : Nat) => decide ((0 + (m : Int)) = k)).map V.bl) (fun _ _ => rfl)
        (fun _ _ _ _ _ _ _ r => r) (fun i H x H' y => by rw [y.1]; exact Same.refl _) (fun j x acc H7 H8 Qn Qf hj sm2 y ra at_ kn kf => ?_) (fun acc H7 s7 at_ _ ra => ?_)
      · obtain ⟨rfl, rfl⟩ := y
        refine ⟨rfl, _, rfl, _, rfl, rfl, kn _ _ (Same.refl _) ?_⟩
        rw [ra, List.range_succ, List.map_append, List.map_append]
        have e2 : decide (V.int (0 + (j : Int)) = V.int k) = decide (0 + (j : Int) = k) := by simp
        show _ ++ [V.bl (decide (V.int (0 + (j : Int)) = V.int k))] = _
        rw [e2]
        rfl
      · have ek : ((List.range 9).map fun (m : Nat) => decide ((0 + (m : Int)) = k)) = kinds k := rfl
        rw [ra, ek] at at_
        obtain ⟨sh, ev⟩ := bools_shaped (kinds k)
        refine ⟨_, _, .lst (.inl (.inl (s7 _ _ at6))) (dp_bools (kinds k)), .lst (.inl (.inl at_)) (dp_bools (kinds k)), sh, sh, ?_⟩
        rw [ev]
        exact ⟨_, rfl, iteF ⟨_, _, rfl, (s5.trans s6).trans s7⟩⟩
    · obtain ⟨y2, y3, rfl, sm⟩ := hW
      have s0 : Small n := by have := small 0 (by omega) (by omega); rwa [Int.add_zero] at this
      have F : Kf K ea ea.c_HouseError 9 := kf_of T (j := 9) (by decide) (by decide)
      refine ⟨_, rfl, n, rfl, s0, fun e H3 s3 hE => ?_⟩
      refine ⟨_, rfl, e, _, _, rfl, hE, F.f, F.no, _, rfl, rfl, _, rfl, ?_⟩
      rw [decide_eq_true rfl]
      refine ⟨_, rfl, e, _, _, 9, rfl, hE, F, fun p H6 s6 at6 => ?_⟩
      refine ⟨9, rfl, by decide, by decide, fun D hD => ?_⟩
      refine lc_w (walk_range (lo := 0) (n := 9)) hD (by decide) (fun _ _ => trivial) (fun j acc _ => acc = (List.replicate j false).map V.bl) (fun _ _ => rfl)
        (fun _ _ _ _ _ _ _ r => r) (fun i H x H' y => by rw [y.1]; exact Same.refl _) (fun j x acc H7 H8 Qn Qf hj sm2 y ra at_ kn kf => ?_) (fun acc H7 s7 at_ _ ra => ?_)
      · obtain ⟨rfl, rfl⟩ := y
        refine ⟨rfl, kn _ _ (Same.refl _) ?_⟩
        rw [ra, List.replicate_succ', List.map_append]
        rfl
      · have ek : List.replicate 9 false = kinds 9 := by decide
        rw [ra, ek] at at_
        obtain ⟨sh, ev⟩ := bools_shaped (kinds 9)
        refine ⟨_, _, .lst (.inl (.inl (s7 _ _ at6))) (dp_bools (kinds 9)), .lst (.inl (.inl at_)) (dp_bools (kinds 9)), sh, sh, ?_⟩
        rw [ev]
        exact q H7
end

end SH
set_option Elab.async false
set_option linter.all false
set_option maxRecDepth 100000
set_option maxHeartbeats 4000000
namespace SH
open PySem PySem.Spec PyProof.Rows L2
theorem law_all {P : Program} {w : World} {K : PySem.W.Frag} {mg : Str → Option Value} {base : Heap} {ea : Ea} {f : Addr} {fd : FuncData} (T : Txt K mg ea) (F : Fun K "law" "law" s_law f fd) : FnOk P w K mg base CX0 4 f fd ["script"] (spLaw K) :=
  ok_law T F (ok__law_first T) (ok__law_second T) (ok__law_kinds T)
theorem all_mk {P : Program} {w : World} {K : PySem.W.Frag} {h : Heap} {mg : Str → Option Value} {fa : Addr} (X : K.In h) (G : h.Ns mainGlobals mg) (hfa : mg "law" = some (.ref fa))
    {f__law_first f__law_second f__law_kinds f_law : Addr}
    {od__law_first an__law_first od__law_second an__law_second od__law_kinds an__law_kinds od_law an_law : Option Addr}
    {sl__law_first sl__law_second sl__law_kinds sl_law : Array (Option Value)}
    {oc__law_first kV__law_first dc__law_first pm__law_first cd__law_first ct__law_first oc__law_second kV__law_second dc__law_second pm__law_second cd__law_second ct__law_second oc__law_kinds kV__law_kinds dc__law_kinds pm__law_kinds cd__law_kinds ct__law_kinds oc_law kV_law dc_law pm_law cd_law ct_law : Value}
    {fI : Addr} {odI anI : Option Addr} {slI : Array (Option Value)} {ocI kVI dcI pmI cdI ctI : Value}
    {C_HouseError N_HouseError C_BadLine N_BadLine C_BadText N_BadText C_WrongOrder N_WrongOrder C_TooMany N_TooMany C_TakenNumber N_TakenNumber C_NoText N_NoText C_OutOfRange N_OutOfRange C_BadStep N_BadStep C_NoChange N_NoChange : Addr}
    {nm_HouseError q_HouseError : Str} {bs_HouseError : List Value} {sn_HouseError : List Str} {sub_HouseError : List Value} {ab_HouseError : Bool} {col_HouseError : Option Bool} {dd_HouseError : Option Addr} {m0_HouseError m1_HouseError m2_HouseError m3_HouseError m5_HouseError : Option Value}
    {nm_BadLine q_BadLine : Str} {bs_BadLine : List Value} {sn_BadLine : List Str} {sub_BadLine : List Value} {ab_BadLine : Bool} {col_BadLine : Option Bool} {dd_BadLine : Option Addr} {m0_BadLine m1_BadLine m2_BadLine m3_BadLine m5_BadLine : Option Value}
    {nm_BadText q_BadText : Str} {bs_BadText : List Value} {sn_BadText : List Str} {sub_BadText : List Value} {ab_BadText : Bool} {col_BadText : Option Bool} {dd_BadText : Option Addr} {m0_BadText m1_BadText m2_BadText m3_BadText m5_BadText : Option Value}
    {nm_WrongOrder q_WrongOrder : Str} {bs_WrongOrder : List Value} {sn_WrongOrder : List Str} {sub_WrongOrder : List Value} {ab_WrongOrder : Bool} {col_WrongOrder : Option Bool} {dd_WrongOrder : Option Addr} {m0_WrongOrder m1_WrongOrder m2_WrongOrder m3_WrongOrder m5_WrongOrder : Option Value}
    {nm_TooMany q_TooMany : Str} {bs_TooMany : List Value} {sn_TooMany : List Str} {sub_TooMany : List Value} {ab_TooMany : Bool} {col_TooMany : Option Bool} {dd_TooMany : Option Addr} {m0_TooMany m1_TooMany m2_TooMany m3_TooMany m5_TooMany : Option Value}
    {nm_TakenNumber q_TakenNumber : Str} {bs_TakenNumber : List Value} {sn_TakenNumber : List Str} {sub_TakenNumber : List Value} {ab_TakenNumber : Bool} {col_TakenNumber : Option Bool} {dd_TakenNumber : Option Addr} {m0_TakenNumber m1_TakenNumber m2_TakenNumber m3_TakenNumber m5_TakenNumber : Option Value}
    {nm_NoText q_NoText : Str} {bs_NoText : List Value} {sn_NoText : List Str} {sub_NoText : List Value} {ab_NoText : Bool} {col_NoText : Option Bool} {dd_NoText : Option Addr} {m0_NoText m1_NoText m2_NoText m3_NoText m5_NoText : Option Value}
    {nm_OutOfRange q_OutOfRange : Str} {bs_OutOfRange : List Value} {sn_OutOfRange : List Str} {sub_OutOfRange : List Value} {ab_OutOfRange : Bool} {col_OutOfRange : Option Bool} {dd_OutOfRange : Option Addr} {m0_OutOfRange m1_OutOfRange m2_OutOfRange m3_OutOfRange m5_OutOfRange : Option Value}
    {nm_BadStep q_BadStep : Str} {bs_BadStep : List Value} {sn_BadStep : List Str} {sub_BadStep : List Value} {ab_BadStep : Bool} {col_BadStep : Option Bool} {dd_BadStep : Option Addr} {m0_BadStep m1_BadStep m2_BadStep m3_BadStep m5_BadStep : Option Value}
    {nm_NoChange q_NoChange : Str} {bs_NoChange : List Value} {sn_NoChange : List Str} {sub_NoChange : List Value} {ab_NoChange : Bool} {col_NoChange : Option Bool} {dd_NoChange : Option Addr} {m0_NoChange m1_NoChange m2_NoChange m3_NoChange m5_NoChange : Option Value}
    (z_ValueError : PySem.W.nsIn K mainGlobals "ValueError" = some none)
    (z_bool : PySem.W.nsIn K mainGlobals "bool" = some none)
    (z_int : PySem.W.nsIn K mainGlobals "int" = some none)
    (z_isinstance : PySem.W.nsIn K mainGlobals "isinstance" = some none)
    (z_len : PySem.W.nsIn K mainGlobals "len" = some none)
    (z_range : PySem.W.nsIn K mainGlobals "range" = some none)
    (a__law_first : PySem.W.nsIn K mainGlobals "_law_first" = some (some (.ref f__law_first)))
    (l__law_first : K.lookup f__law_first = some ⟨oc__law_first, od__law_first, .func (PySem.W.fnOf "_law_first" "_law_first" (defArgs s__law_first) (defBody s__law_first) (defScope s__law_first) .none kV__law_first dc__law_first pm__law_first an__law_first cd__law_first ct__law_first), sl__law_first⟩)
    (c__law_first : PySem.W.codeIn K cd__law_first "_law_first" = true)
    (k__law_first : PySem.W.keepIn K (.ref f__law_first) = true)
    (a__law_second : PySem.W.nsIn K mainGlobals "_law_second" = some (some (.ref f__law_second)))
    (l__law_second : K.lookup f__law_second = some ⟨oc__law_second, od__law_second, .func (PySem.W.fnOf "_law_second" "_law_second" (defArgs s__law_second) (defBody s__law_second) (defScope s__law_second) .none kV__law_second dc__law_second pm__law_second an__law_second cd__law_second ct__law_second), sl__law_second⟩)
    (c__law_second : PySem.W.codeIn K cd__law_second "_law_second" = true)
    (k__law_second : PySem.W.keepIn K (.ref f__law_second) = true)
    (a__law_kinds : PySem.W.nsIn K mainGlobals "_law_kinds" = some (some (.ref f__law_kinds)))
    (l__law_kinds : K.lookup f__law_kinds = some ⟨oc__law_kinds, od__law_kinds, .func (PySem.W.fnOf "_law_kinds" "_law_kinds" (defArgs s__law_kinds) (defBody s__law_kinds) (defScope s__law_kinds) .none kV__law_kinds dc__law_kinds pm__law_kinds an__law_kinds cd__law_kinds ct__law_kinds), sl__law_kinds⟩)
    (c__law_kinds : PySem.W.codeIn K cd__law_kinds "_law_kinds" = true)
    (k__law_kinds : PySem.W.keepIn K (.ref f__law_kinds) = true)
    (a_law : PySem.W.nsIn K mainGlobals "law" = some (some (.ref f_law)))
    (l_law : K.lookup f_law = some ⟨oc_law, od_law, .func (PySem.W.fnOf "law" "law" (defArgs s_law) (defBody s_law) (defScope s_law) .none kV_law dc_law pm_law an_law cd_law ct_law), sl_law⟩)
    (c_law : PySem.W.codeIn K cd_law "law" = true)
    (k_law : PySem.W.keepIn K (.ref f_law) = true)
    (xg_HouseError : PySem.W.nsIn K mainGlobals "HouseError" = some (some (.ref C_HouseError)))
    (xx_HouseError : K.lookup C_HouseError = some (excClassObj nm_HouseError q_HouseError C_HouseError N_HouseError bs_HouseError [.type "ValueError", .type "Exception", .type "BaseException", .type "object"] true sn_HouseError sub_HouseError ab_HouseError col_HouseError dd_HouseError m0_HouseError m1_HouseError m2_HouseError m3_HouseError m5_HouseError "ValueError.__new__"))
    (xs_HouseError : PySem.W.findIn K (.ref C_HouseError) "__setattr__" = some (some (.builtin "object.__setattr__")))
    (xga_HouseError : PySem.W.findIn K (.ref C_HouseError) "__getattribute__" = some (some (.builtin "BaseException.__getattribute__")))
    (xgg_HouseError : PySem.W.findIn K (.ref C_HouseError) "__getattr__" = some none)
    (xat_HouseError : PySem.W.findIn K (.ref C_HouseError) "at" = some none)
    (xi_HouseError : PySem.W.findIn K (.ref C_HouseError) "__init__" = some (some (.ref fI)))
    (xb_HouseError : PySem.W.subIn K (.ref C_HouseError) (.type "BaseException") = some true)
    (xt_HouseError : PySem.W.typeIn K (.ref C_HouseError) = some (.type "type"))
    (xh_HouseError : PySem.W.hasDictIn K C_HouseError = true)
    (xk_HouseError : PySem.W.keepIn K (.ref C_HouseError) = true)
    (xis_HouseError : PySem.W.isClsIn K C_HouseError = true)
    (xg_BadLine : PySem.W.nsIn K mainGlobals "BadLine" = some (some (.ref C_BadLine)))
    (xx_BadLine : K.lookup C_BadLine = some (excClassObj nm_BadLine q_BadLine C_BadLine N_BadLine bs_BadLine (.ref C_HouseError :: [.type "ValueError", .type "Exception", .type "BaseException", .type "object"]) true sn_BadLine sub_BadLine ab_BadLine col_BadLine dd_BadLine m0_BadLine m1_BadLine m2_BadLine m3_BadLine m5_BadLine "ValueError.__new__"))
    (xs_BadLine : PySem.W.findIn K (.ref C_BadLine) "__setattr__" = some (some (.builtin "object.__setattr__")))
    (xga_BadLine : PySem.W.findIn K (.ref C_BadLine) "__getattribute__" = some (some (.builtin "BaseException.__getattribute__")))
    (xgg_BadLine : PySem.W.findIn K (.ref C_BadLine) "__getattr__" = some none)
    (xat_BadLine : PySem.W.findIn K (.ref C_BadLine) "at" = some none)
    (xi_BadLine : PySem.W.findIn K (.ref C_BadLine) "__init__" = some (some (.ref fI)))
    (xb_BadLine : PySem.W.subIn K (.ref C_BadLine) (.type "BaseException") = some true)
    (xt_BadLine : PySem.W.typeIn K (.ref C_BadLine) = some (.type "type"))
    (xh_BadLine : PySem.W.hasDictIn K C_BadLine = true)
    (xk_BadLine : PySem.W.keepIn K (.ref C_BadLine) = true)
    (xis_BadLine : PySem.W.isClsIn K C_BadLine = true)
    (xg_BadText : PySem.W.nsIn K mainGlobals "BadText" = some (some (.ref C_BadText)))
    (xx_BadText : K.lookup C_BadText = some (excClassObj nm_BadText q_BadText C_BadText N_BadText bs_BadText (.ref C_HouseError :: [.type "ValueError", .type "Exception", .type "BaseException", .type "object"]) true sn_BadText sub_BadText ab_BadText col_BadText dd_BadText m0_BadText m1_BadText m2_BadText m3_BadText m5_BadText "ValueError.__new__"))
    (xs_BadText : PySem.W.findIn K (.ref C_BadText) "__setattr__" = some (some (.builtin "object.__setattr__")))
    (xga_BadText : PySem.W.findIn K (.ref C_BadText) "__getattribute__" = some (some (.builtin "BaseException.__getattribute__")))
    (xgg_BadText : PySem.W.findIn K (.ref C_BadText) "__getattr__" = some none)
    (xat_BadText : PySem.W.findIn K (.ref C_BadText) "at" = some none)
    (xi_BadText : PySem.W.findIn K (.ref C_BadText) "__init__" = some (some (.ref fI)))
    (xb_BadText : PySem.W.subIn K (.ref C_BadText) (.type "BaseException") = some true)
    (xt_BadText : PySem.W.typeIn K (.ref C_BadText) = some (.type "type"))
    (xh_BadText : PySem.W.hasDictIn K C_BadText = true)
    (xk_BadText : PySem.W.keepIn K (.ref C_BadText) = true)
    (xis_BadText : PySem.W.isClsIn K C_BadText = true)
    (xg_WrongOrder : PySem.W.nsIn K mainGlobals "WrongOrder" = some (some (.ref C_WrongOrder)))
    (xx_WrongOrder : K.lookup C_WrongOrder = some (excClassObj nm_WrongOrder q_WrongOrder C_WrongOrder N_WrongOrder bs_WrongOrder (.ref C_HouseError :: [.type "ValueError", .type "Exception", .type "BaseException", .type "object"]) true sn_WrongOrder sub_WrongOrder ab_WrongOrder col_WrongOrder dd_WrongOrder m0_WrongOrder m1_WrongOrder m2_WrongOrder m3_WrongOrder m5_WrongOrder "ValueError.__new__"))
    (xs_WrongOrder : PySem.W.findIn K (.ref C_WrongOrder) "__setattr__" = some (some (.builtin "object.__setattr__")))
    (xga_WrongOrder : PySem.W.findIn K (.ref C_WrongOrder) "__getattribute__" = some (some (.builtin "BaseException.__getattribute__")))
    (xgg_WrongOrder : PySem.W.findIn K (.ref C_WrongOrder) "__getattr__" = some none)
    (xat_WrongOrder : PySem.W.findIn K (.ref C_WrongOrder) "at" = some none)
    (xi_WrongOrder : PySem.W.findIn K (.ref C_WrongOrder) "__init__" = some (some (.ref fI)))
    (xb_WrongOrder : PySem.W.subIn K (.ref C_WrongOrder) (.type "BaseException") = some true)
    (xt_WrongOrder : PySem.W.typeIn K (.ref C_WrongOrder) = some (.type "type"))
    (xh_WrongOrder : PySem.W.hasDictIn K C_WrongOrder = true)
    (xk_WrongOrder : PySem.W.keepIn K (.ref C_WrongOrder) = true)
    (xis_WrongOrder : PySem.W.isClsIn K C_WrongOrder = true)
    (xg_TooMany : PySem.W.nsIn K mainGlobals "TooMany" = some (some (.ref C_TooMany)))
    (xx_TooMany : K.lookup C_TooMany = some (excClassObj nm_TooMany q_TooMany C_TooMany N_TooMany bs_TooMany (.ref C_HouseError :: [.type "ValueError", .type "Exception", .type "BaseException", .type "object"]) true sn_TooMany sub_TooMany ab_TooMany col_TooMany dd_TooMany m0_TooMany m1_TooMany m2_TooMany m3_TooMany m5_TooMany "ValueError.__new__"))
    (xs_TooMany : PySem.W.findIn K (.ref C_TooMany) "__setattr__" = some (some (.builtin "object.__setattr__")))
    (xga_TooMany : PySem.W.findIn K (.ref C_TooMany) "__getattribute__" = some (some (.builtin "BaseException.__getattribute__")))
    (xgg_TooMany : PySem.W.findIn K (.ref C_TooMany) "__getattr__" = some none)
    (xat_TooMany : PySem.W.findIn K (.ref C_TooMany) "at" = some none)
    (xi_TooMany : PySem.W.findIn K (.ref C_TooMany) "__init__" = some (some (.ref fI)))
    (xb_TooMany : PySem.W.subIn K (.ref C_TooMany) (.type "BaseException") = some true)
    (xt_TooMany : PySem.W.typeIn K (.ref C_TooMany) = some (.type "type"))
    (xh_TooMany : PySem.W.hasDictIn K C_TooMany = true)
    (xk_TooMany : PySem.W.keepIn K (.ref C_TooMany) = true)
    (xis_TooMany : PySem.W.isClsIn K C_TooMany = true)
    (xg_TakenNumber : PySem.W.nsIn K mainGlobals "TakenNumber" = some (some (.ref C_TakenNumber)))
    (xx_TakenNumber : K.lookup C_TakenNumber = some (excClassObj nm_TakenNumber q_TakenNumber C_TakenNumber N_TakenNumber bs_TakenNumber (.ref C_HouseError :: [.type "ValueError", .type "Exception", .type "BaseException", .type "object"]) true sn_TakenNumber sub_TakenNumber ab_TakenNumber col_TakenNumber dd_TakenNumber m0_TakenNumber m1_TakenNumber m2_TakenNumber m3_TakenNumber m5_TakenNumber "ValueError.__new__"))
    (xs_TakenNumber : PySem.W.findIn K (.ref C_TakenNumber) "__setattr__" = some (some (.builtin "object.__setattr__")))
    (xga_TakenNumber : PySem.W.findIn K (.ref C_TakenNumber) "__getattribute__" = some (some (.builtin "BaseException.__getattribute__")))
    (xgg_TakenNumber : PySem.W.findIn K (.ref C_TakenNumber) "__getattr__" = some none)
    (xat_TakenNumber : PySem.W.findIn K (.ref C_TakenNumber) "at" = some none)
    (xi_TakenNumber : PySem.W.findIn K (.ref C_TakenNumber) "__init__" = some (some (.ref fI)))
    (xb_TakenNumber : PySem.W.subIn K (.ref C_TakenNumber) (.type "BaseException") = some true)
    (xt_TakenNumber : PySem.W.typeIn K (.ref C_TakenNumber) = some (.type "type"))
    (xh_TakenNumber : PySem.W.hasDictIn K C_TakenNumber = true)
    (xk_TakenNumber : PySem.W.keepIn K (.ref C_TakenNumber) = true)
    (xis_TakenNumber : PySem.W.isClsIn K C_TakenNumber = true)
    (xg_NoText : PySem.W.nsIn K mainGlobals "NoText" = some (some (.ref C_NoText)))
    (xx_NoText : K.lookup C_NoText = some (excClassObj nm_NoText q_NoText C_NoText N_NoText bs_NoText (.ref C_HouseError :: [.type "ValueError", .type "Exception", .type "BaseException", .type "object"]) true sn_NoText sub_NoText ab_NoText col_NoText dd_NoText m0_NoText m1_NoText m2_NoText m3_NoText m5_NoText "ValueError.__new__"))
    (xs_NoText : PySem.W.findIn K (.ref C_NoText) "__setattr__" = some (some (.builtin "object.__setattr__")))
    (xga_NoText : PySem.W.findIn K (.ref C_NoText) "__getattribute__" = some (some (.builtin "BaseException.__getattribute__")))
    (xgg_NoText : PySem.W.findIn K (.ref C_NoText) "__getattr__" = some none)
    (xat_NoText : PySem.W.findIn K (.ref C_NoText) "at" = some none)
    (xi_NoText : PySem.W.findIn K (.ref C_NoText) "__init__" = some (some (.ref fI)))
    (xb_NoText : PySem.W.subIn K (.ref C_NoText) (.type "BaseException") = some true)
    (xt_NoText : PySem.W.typeIn K (.ref C_NoText) = some (.type "type"))
    (xh_NoText : PySem.W.hasDictIn K C_NoText = true)
    (xk_NoText : PySem.W.keepIn K (.ref C_NoText) = true)
    (xis_NoText : PySem.W.isClsIn K C_NoText = true)
    (xg_OutOfRange : PySem.W.nsIn K mainGlobals "OutOfRange" = some (some (.ref C_OutOfRange)))
    (xx_OutOfRange : K.lookup C_OutOfRange = some (excClassObj nm_OutOfRange q_OutOfRange C_OutOfRange N_OutOfRange bs_OutOfRange (.ref C_HouseError :: [.type "ValueError", .type "Exception", .type "BaseException", .type "object"]) true sn_OutOfRange sub_OutOfRange ab_OutOfRange col_OutOfRange dd_OutOfRange m0_OutOfRange m1_OutOfRange m2_OutOfRange m3_OutOfRange m5_OutOfRange "ValueError.__new__"))
    (xs_OutOfRange : PySem.W.findIn K (.ref C_OutOfRange) "__setattr__" = some (some (.builtin "object.__setattr__")))
    (xga_OutOfRange : PySem.W.findIn K (.ref C_OutOfRange) "__getattribute__" = some (some (.builtin "BaseException.__getattribute__")))
    (xgg_OutOfRange : PySem.W.findIn K (.ref C_OutOfRange) "__getattr__" = some none)
    (xat_OutOfRange : PySem.W.findIn K (.ref C_OutOfRange) "at" = some none)
    (xi_OutOfRange : PySem.W.findIn K (.ref C_OutOfRange) "__init__" = some (some (.ref fI)))
    (xb_OutOfRange : PySem.W.subIn K (.ref C_OutOfRange) (.type "BaseException") = some true)
    (xt_OutOfRange : PySem.W.typeIn K (.ref C_OutOfRange) = some (.type "type"))
    (xh_OutOfRange : PySem.W.hasDictIn K C_OutOfRange = true)
    (xk_OutOfRange : PySem.W.keepIn K (.ref C_OutOfRange) = true)
    (xis_OutOfRange : PySem.W.isClsIn K C_OutOfRange = true)
    (xg_BadStep : PySem.W.nsIn K mainGlobals "BadStep" = some (some (.ref C_BadStep)))
    (xx_BadStep : K.lookup C_BadStep = some (excClassObj nm_BadStep q_BadStep C_BadStep N_BadStep bs_BadStep (.ref C_HouseError :: [.type "ValueError", .type "Exception", .type "BaseException", .type "object"]) true sn_BadStep sub_BadStep ab_BadStep col_BadStep dd_BadStep m0_BadStep m1_BadStep m2_BadStep m3_BadStep m5_BadStep "ValueError.__new__"))
    (xs_BadStep : PySem.W.findIn K (.ref C_BadStep) "__setattr__" = some (some (.builtin "object.__setattr__")))
    (xga_BadStep : PySem.W.findIn K (.ref C_BadStep) "__getattribute__" = some (some (.builtin "BaseException.__getattribute__")))
    (xgg_BadStep : PySem.W.findIn K (.ref C_BadStep) "__getattr__" = some none)
    (xat_BadStep : PySem.W.findIn K (.ref C_BadStep) "at" = some none)
    (xi_BadStep : PySem.W.findIn K (.ref C_BadStep) "__init__" = some (some (.ref fI)))
    (xb_BadStep : PySem.W.subIn K (.ref C_BadStep) (.type "BaseException") = some true)
    (xt_BadStep : PySem.W.typeIn K (.ref C_BadStep) = some (.type "type"))
    (xh_BadStep : PySem.W.hasDictIn K C_BadStep = true)
    (xk_BadStep : PySem.W.keepIn K (.ref C_BadStep) = true)
    (xis_BadStep : PySem.W.isClsIn K C_BadStep = true)
    (xg_NoChange : PySem.W.nsIn K mainGlobals "NoChange" = some (some (.ref C_NoChange)))
    (xx_NoChange : K.lookup C_NoChange = some (excClassObj nm_NoChange q_NoChange C_NoChange N_NoChange bs_NoChange (.ref C_HouseError :: [.type "ValueError", .type "Exception", .type "BaseException", .type "object"]) true sn_NoChange sub_NoChange ab_NoChange col_NoChange dd_NoChange m0_NoChange m1_NoChange m2_NoChange m3_NoChange m5_NoChange "ValueError.__new__"))
    (xs_NoChange : PySem.W.findIn K (.ref C_NoChange) "__setattr__" = some (some (.builtin "object.__setattr__")))
    (xga_NoChange : PySem.W.findIn K (.ref C_NoChange) "__getattribute__" = some (some (.builtin "BaseException.__getattribute__")))
    (xgg_NoChange : PySem.W.findIn K (.ref C_NoChange) "__getattr__" = some none)
    (xat_NoChange : PySem.W.findIn K (.ref C_NoChange) "at" = some none)
    (xi_NoChange : PySem.W.findIn K (.ref C_NoChange) "__init__" = some (some (.ref fI)))
    (xb_NoChange : PySem.W.subIn K (.ref C_NoChange) (.type "BaseException") = some true)
    (xt_NoChange : PySem.W.typeIn K (.ref C_NoChange) = some (.type "type"))
    (xh_NoChange : PySem.W.hasDictIn K C_NoChange = true)
    (xk_NoChange : PySem.W.keepIn K (.ref C_NoChange) = true)
    (xis_NoChange : PySem.W.isClsIn K C_NoChange = true)
    (l_I : K.lookup fI = some ⟨ocI, odI, .func (PySem.W.fnOf "__init__" "HouseError.__init__" (defArgs s_init) (defBody s_init) (defScope s_init) .none kVI dcI pmI anI cdI ctI), slI⟩)
    (c_I : PySem.W.codeIn K cdI "HouseError.__init__" = true)
    (k_I : PySem.W.keepIn K (.ref fI) = true)
    (t_I : PySem.W.typeIn K (.ref fI) = some (.type "function"))
    (h_n : PySem.W.specialIn K (.builtin "object.__class__") "__get__" = some (some (.builtin "getset_descriptor.__get__")))
    (h_t : PySem.W.takesIn K (.builtin "object.__class__") = some true)
    (xha_HouseError : PySem.W.findIn K (.ref C_HouseError) "__class__" = some (some (.builtin "object.__class__")))
    (xhm_HouseError : PySem.W.mroIn K C_HouseError (.type "object") = some true)
    (xhv_HouseError : PySem.W.subIn K (.ref C_HouseError) (.type "ValueError") = some true)
    (xha_BadLine : PySem.W.findIn K (.ref C_BadLine) "__class__" = some (some (.builtin "object.__class__")))
    (xhm_BadLine : PySem.W.mroIn K C_BadLine (.type "object") = some true)
    (xhv_BadLine : PySem.W.subIn K (.ref C_BadLine) (.type "ValueError") = some true)
    (xha_BadText : PySem.W.findIn K (.ref C_BadText) "__class__" = some (some (.builtin "object.__class__")))
    (xhm_BadText : PySem.W.mroIn K C_BadText (.type "object") = some true)
    (xhv_BadText : PySem.W.subIn K (.ref C_BadText) (.type "ValueError") = some true)
    (xha_WrongOrder : PySem.W.findIn K (.ref C_WrongOrder) "__class__" = some (some (.builtin "object.__class__")))
    (xhm_WrongOrder : PySem.W.mroIn K C_WrongOrder (.type "object") = some true)
    (xhv_WrongOrder : PySem.W.subIn K (.ref C_WrongOrder) (.type "ValueError") = some true)
    (xha_TooMany : PySem.W.findIn K (.ref C_TooMany) "__class__" = some (some (.builtin "object.__class__")))
    (xhm_TooMany : PySem.W.mroIn K C_TooMany (.type "object") = some true)
    (xhv_TooMany : PySem.W.subIn K (.ref C_TooMany) (.type "ValueError") = some true)
    (xha_TakenNumber : PySem.W.findIn K (.ref C_TakenNumber) "__class__" = some (some (.builtin "object.__class__")))
    (xhm_TakenNumber : PySem.W.mroIn K C_TakenNumber (.type "object") = some true)
    (xhv_TakenNumber : PySem.W.subIn K (.ref C_TakenNumber) (.type "ValueError") = some true)
    (xha_NoText : PySem.W.findIn K (.ref C_NoText) "__class__" = some (some (.builtin "object.__class__")))
    (xhm_NoText : PySem.W.mroIn K C_NoText (.type "object") = some true)
    (xhv_NoText : PySem.W.subIn K (.ref C_NoText) (.type "ValueError") = some true)
    (xha_OutOfRange : PySem.W.findIn K (.ref C_OutOfRange) "__class__" = some (some (.builtin "object.__class__")))
    (xhm_OutOfRange : PySem.W.mroIn K C_OutOfRange (.type "object") = some true)
    (xhv_OutOfRange : PySem.W.subIn K (.ref C_OutOfRange) (.type "ValueError") = some true)
    (xha_BadStep : PySem.W.findIn K (.ref C_BadStep) "__class__" = some (some (.builtin "object.__class__")))
    (xhm_BadStep : PySem.W.mroIn K C_BadStep (.type "object") = some true)
    (xhv_BadStep : PySem.W.subIn K (.ref C_BadStep) (.type "ValueError") = some true)
    (xha_NoChange : PySem.W.findIn K (.ref C_NoChange) "__class__" = some (some (.builtin "object.__class__")))
    (xhm_NoChange : PySem.W.mroIn K C_NoChange (.type "object") = some true)
    (xhv_NoChange : PySem.W.subIn K (.ref C_NoChange) (.type "ValueError") = some true)
    (s_HouseError_HouseError : PySem.W.subIn K (.ref C_HouseError) (.ref C_HouseError) = some true)
    (s_HouseError_BadLine : PySem.W.subIn K (.ref C_HouseError) (.ref C_BadLine) = some false)
    (s_HouseError_BadText : PySem.W.subIn K (.ref C_HouseError) (.ref C_BadText) = some false)
    (s_HouseError_WrongOrder : PySem.W.subIn K (.ref C_HouseError) (.ref C_WrongOrder) = some false)
    (s_HouseError_TooMany : PySem.W.subIn K (.ref C_HouseError) (.ref C_TooMany) = some false)
    (s_HouseError_TakenNumber : PySem.W.subIn K (.ref C_HouseError) (.ref C_TakenNumber) = some false)
    (s_HouseError_NoText : PySem.W.subIn K (.ref C_HouseError) (.ref C_NoText) = some false)
    (s_HouseError_OutOfRange : PySem.W.subIn K (.ref C_HouseError) (.ref C_OutOfRange) = some false)
    (s_HouseError_BadStep : PySem.W.subIn K (.ref C_HouseError) (.ref C_BadStep) = some false)
    (s_HouseError_NoChange : PySem.W.subIn K (.ref C_HouseError) (.ref C_NoChange) = some false)
    (s_BadLine_HouseError : PySem.W.subIn K (.ref C_BadLine) (.ref C_HouseError) = some true)
    (s_BadLine_BadLine : PySem.W.subIn K (.ref C_BadLine) (.ref C_BadLine) = some true)
    (s_BadLine_BadText : PySem.W.subIn K (.ref C_BadLine) (.ref C_BadText) = some false)
    (s_BadLine_WrongOrder : PySem.W.subIn K (.ref C_BadLine) (.ref C_WrongOrder) = some false)
    (s_BadLine_TooMany : PySem.W.subIn K (.ref C_BadLine) (.ref C_TooMany) = some false)
    (s_BadLine_TakenNumber : PySem.W.subIn K (.ref C_BadLine) (.ref C_TakenNumber) = some false)
    (s_BadLine_NoText : PySem.W.subIn K (.ref C_BadLine) (.ref C_NoText) = some false)
    (s_BadLine_OutOfRange : PySem.W.subIn K (.ref C_BadLine) (.ref C_OutOfRange) = some false)
    (s_BadLine_BadStep : PySem.W.subIn K (.ref C_BadLine) (.ref C_BadStep) = some false)
    (s_BadLine_NoChange : PySem.W.subIn K (.ref C_BadLine) (.ref C_NoChange) = some false)
    (s_BadText_HouseError : PySem.W.subIn K (.ref C_BadText) (.ref C_HouseError) = some true)
    (s_BadText_BadLine : PySem.W.subIn K (.ref C_BadText) (.ref C_BadLine) = some false)
    (s_BadText_BadText : PySem.W.subIn K (.ref C_BadText) (.ref C_BadText) = some true)
    (s_BadText_WrongOrder : PySem.W.subIn K (.ref C_BadText) (.ref C_WrongOrder) = some false)
    (s_BadText_TooMany : PySem.W.subIn K (.ref C_BadText) (.ref C_TooMany) = some false)
    (s_BadText_TakenNumber : PySem.W.subIn K (.ref C_BadText) (.ref C_TakenNumber) = some false)
    (s_BadText_NoText : PySem.W.subIn K (.ref C_BadText) (.ref C_NoText) = some false)
    (s_BadText_OutOfRange : PySem.W.subIn K (.ref C_BadText) (.ref C_OutOfRange) = some false)
    (s_BadText_BadStep : PySem.W.subIn K (.ref C_BadText) (.ref C_BadStep) = some false)
    (s_BadText_NoChange : PySem.W.subIn K (.ref C_BadText) (.ref C_NoChange) = some false)
    (s_WrongOrder_HouseError : PySem.W.subIn K (.ref C_WrongOrder) (.ref C_HouseError) = some true)
    (s_WrongOrder_BadLine : PySem.W.subIn K (.ref C_WrongOrder) (.ref C_BadLine) = some false)
    (s_WrongOrder_BadText : PySem.W.subIn K (.ref C_WrongOrder) (.ref C_BadText) = some false)
    (s_WrongOrder_WrongOrder : PySem.W.subIn K (.ref C_WrongOrder) (.ref C_WrongOrder) = some true)
    (s_WrongOrder_TooMany : PySem.W.subIn K (.ref C_WrongOrder) (.ref C_TooMany) = some false)
    (s_WrongOrder_TakenNumber : PySem.W.subIn K (.ref C_WrongOrder) (.ref C_TakenNumber) = some false)
    (s_WrongOrder_NoText : PySem.W.subIn K (.ref C_WrongOrder) (.ref C_NoText) = some false)
    (s_WrongOrder_OutOfRange : PySem.W.subIn K (.ref C_WrongOrder) (.ref C_OutOfRange) = some false)
    (s_WrongOrder_BadStep : PySem.W.subIn K (.ref C_WrongOrder) (.ref C_BadStep) = some false)
    (s_WrongOrder_NoChange : PySem.W.subIn K (.ref C_WrongOrder) (.ref C_NoChange) = some false)
    (s_TooMany_HouseError : PySem.W.subIn K (.ref C_TooMany) (.ref C_HouseError) = some true)
    (s_TooMany_BadLine : PySem.W.subIn K (.ref C_TooMany) (.ref C_BadLine) = some false)
    (s_TooMany_BadText : PySem.W.subIn K (.ref C_TooMany) (.ref C_BadText) = some false)
    (s_TooMany_WrongOrder : PySem.W.subIn K (.ref C_TooMany) (.ref C_WrongOrder) = some false)
    (s_TooMany_TooMany : PySem.W.subIn K (.ref C_TooMany) (.ref C_TooMany) = some true)
    (s_TooMany_TakenNumber : PySem.W.subIn K (.ref C_TooMany) (.ref C_TakenNumber) = some false)
    (s_TooMany_NoText : PySem.W.subIn K (.ref C_TooMany) (.ref C_NoText) = some false)
    (s_TooMany_OutOfRange : PySem.W.subIn K (.ref C_TooMany) (.ref C_OutOfRange) = some false)
    (s_TooMany_BadStep : PySem.W.subIn K (.ref C_TooMany) (.ref C_BadStep) = some false)
    (s_TooMany_NoChange : PySem.W.subIn K (.ref C_TooMany) (.ref C_NoChange) = some false)
    (s_TakenNumber_HouseError : PySem.W.subIn K (.ref C_TakenNumber) (.ref C_HouseError) = some true)
    (s_TakenNumber_BadLine : PySem.W.subIn K (.ref C_TakenNumber) (.ref C_BadLine) = some false)
    (s_TakenNumber_BadText : PySem.W.subIn K (.ref C_TakenNumber) (.ref C_BadText) = some false)
    (s_TakenNumber_WrongOrder : PySem.W.subIn K (.ref C_TakenNumber) (.ref C_WrongOrder) = some false)
    (s_TakenNumber_TooMany : PySem.W.subIn K (.ref C_TakenNumber) (.ref C_TooMany) = some false)
    (s_TakenNumber_TakenNumber : PySem.W.subIn K (.ref C_TakenNumber) (.ref C_TakenNumber) = some true)
    (s_TakenNumber_NoText : PySem.W.subIn K (.ref C_TakenNumber) (.ref C_NoText) = some false)
    (s_TakenNumber_OutOfRange : PySem.W.subIn K (.ref C_TakenNumber) (.ref C_OutOfRange) = some false)
    (s_TakenNumber_BadStep : PySem.W.subIn K (.ref C_TakenNumber) (.ref C_BadStep) = some false)
    (s_TakenNumber_NoChange : PySem.W.subIn K (.ref C_TakenNumber) (.ref C_NoChange) = some false)
    (s_NoText_HouseError : PySem.W.subIn K (.ref C_NoText) (.ref C_HouseError) = some true)
    (s_NoText_BadLine : PySem.W.subIn K (.ref C_NoText) (.ref C_BadLine) = some false)
    (s_NoText_BadText : PySem.W.subIn K (.ref C_NoText) (.ref C_BadText) = some false)
    (s_NoText_WrongOrder : PySem.W.subIn K (.ref C_NoText) (.ref C_WrongOrder) = some false)
    (s_NoText_TooMany : PySem.W.subIn K (.ref C_NoText) (.ref C_TooMany) = some false)
    (s_NoText_TakenNumber : PySem.W.subIn K (.ref C_NoText) (.ref C_TakenNumber) = some false)
    (s_NoText_NoText : PySem.W.subIn K (.ref C_NoText) (.ref C_NoText) = some true)
    (s_NoText_OutOfRange : PySem.W.subIn K (.ref C_NoText) (.ref C_OutOfRange) = some false)
    (s_NoText_BadStep : PySem.W.subIn K (.ref C_NoText) (.ref C_BadStep) = some false)
    (s_NoText_NoChange : PySem.W.subIn K (.ref C_NoText) (.ref C_NoChange) = some false)
    (s_OutOfRange_HouseError : PySem.W.subIn K (.ref C_OutOfRange) (.ref C_HouseError) = some true)
    (s_OutOfRange_BadLine : PySem.W.subIn K (.ref C_OutOfRange) (.ref C_BadLine) = some false)
    (s_OutOfRange_BadText : PySem.W.subIn K (.ref C_OutOfRange) (.ref C_BadText) = some false)
    (s_OutOfRange_WrongOrder : PySem.W.subIn K (.ref C_OutOfRange) (.ref C_WrongOrder) = some false)
    (s_OutOfRange_TooMany : PySem.W.subIn K (.ref C_OutOfRange) (.ref C_TooMany) = some false)
    (s_OutOfRange_TakenNumber : PySem.W.subIn K (.ref C_OutOfRange) (.ref C_TakenNumber) = some false)
    (s_OutOfRange_NoText : PySem.W.subIn K (.ref C_OutOfRange) (.ref C_NoText) = some false)
    (s_OutOfRange_OutOfRange : PySem.W.subIn K (.ref C_OutOfRange) (.ref C_OutOfRange) = some true)
    (s_OutOfRange_BadStep : PySem.W.subIn K (.ref C_OutOfRange) (.ref C_BadStep) = some false)
    (s_OutOfRange_NoChange : PySem.W.subIn K (.ref C_OutOfRange) (.ref C_NoChange) = some false)
    (s_BadStep_HouseError : PySem.W.subIn K (.ref C_BadStep) (.ref C_HouseError) = some true)
    (s_BadStep_BadLine : PySem.W.subIn K (.ref C_BadStep) (.ref C_BadLine) = some false)
    (s_BadStep_BadText : PySem.W.subIn K (.ref C_BadStep) (.ref C_BadText) = some false)
    (s_BadStep_WrongOrder : PySem.W.subIn K (.ref C_BadStep) (.ref C_WrongOrder) = some false)
    (s_BadStep_TooMany : PySem.W.subIn K (.ref C_BadStep) (.ref C_TooMany) = some false)
    (s_BadStep_TakenNumber : PySem.W.subIn K (.ref C_BadStep) (.ref C_TakenNumber) = some false)
    (s_BadStep_NoText : PySem.W.subIn K (.ref C_BadStep) (.ref C_NoText) = some false)
    (s_BadStep_OutOfRange : PySem.W.subIn K (.ref C_BadStep) (.ref C_OutOfRange) = some false)
    (s_BadStep_BadStep : PySem.W.subIn K (.ref C_BadStep) (.ref C_BadStep) = some true)
    (s_BadStep_NoChange : PySem.W.subIn K (.ref C_BadStep) (.ref C_NoChange) = some false)
    (s_NoChange_HouseError : PySem.W.subIn K (.ref C_NoChange) (.ref C_HouseError) = some true)
    (s_NoChange_BadLine : PySem.W.subIn K (.ref C_NoChange) (.ref C_BadLine) = some false)
    (s_NoChange_BadText : PySem.W.subIn K (.ref C_NoChange) (.ref C_BadText) = some false)
    (s_NoChange_WrongOrder : PySem.W.subIn K (.ref C_NoChange) (.ref C_WrongOrder) = some false)
    (s_NoChange_TooMany : PySem.W.subIn K (.ref C_NoChange) (.ref C_TooMany) = some false)
    (s_NoChange_TakenNumber : PySem.W.subIn K (.ref C_NoChange) (.ref C_TakenNumber) = some false)
    (s_NoChange_NoText : PySem.W.subIn K (.ref C_NoChange) (.ref C_NoText) = some false)
    (s_NoChange_OutOfRange : PySem.W.subIn K (.ref C_NoChange) (.ref C_OutOfRange) = some false)
    (s_NoChange_BadStep : PySem.W.subIn K (.ref C_NoChange) (.ref C_BadStep) = some false)
    (s_NoChange_NoChange : PySem.W.subIn K (.ref C_NoChange) (.ref C_NoChange) = some true)
    : ∃ fd : FuncData, (∀ (s : Shared) (v : Value), BindsTo s fd ⟨[v], []⟩ [("script", v)]) ∧ ∀ base : Heap, K.In base → base.Ns mainGlobals mg → FnOk P w K mg base CX0 4 fa fd ["script"] (spLaw K) := by
  have e := hfa.symm.trans (PySem.W.mg_of X G a_law)
  cases e
  have T : Txt K mg ⟨fI, C_HouseError, C_BadLine, C_BadText, C_WrongOrder, C_TooMany, C_TakenNumber, C_NoText, C_OutOfRange, C_BadStep, C_NoChange⟩ := ⟨PySem.W.mg_none_of X G z_ValueError, PySem.W.mg_none_of X G z_bool, PySem.W.mg_none_of X G z_int, PySem.W.mg_none_of X G z_isinstance, PySem.W.mg_none_of X G z_len, PySem.W.mg_none_of X G z_range, ⟨_, _, fun_mk (st := s__law_first) l__law_first c__law_first k__law_first, PySem.W.mg_of X G a__law_first, (fun_mk (st := s__law_first) l__law_first c__law_first k__law_first).binds (ps := ["k", "n"]) fun _ _ _ _ _ _ us hl => match us, hl with | [_, _], _ => rfl⟩, ⟨_, _, fun_mk (st := s__law_second) l__law_second c__law_second k__law_second, PySem.W.mg_of X G a__law_second, (fun_mk (st := s__law_second) l__law_second c__law_second k__law_second).binds (ps := ["k", "n"]) fun _ _ _ _ _ _ us hl => match us, hl with | [_, _], _ => rfl⟩, ⟨_, _, fun_mk (st := s__law_kinds) l__law_kinds c__law_kinds k__law_kinds, PySem.W.mg_of X G a__law_kinds, (fun_mk (st := s__law_kinds) l__law_kinds c__law_kinds k__law_kinds).binds (ps := ["e"]) fun _ _ _ _ _ _ us hl => match us, hl with | [_], _ => rfl⟩, ⟨_, _, fun_mk (st := s_law) l_law c_law k_law, PySem.W.mg_of X G a_law, (fun_mk (st := s_law) l_law c_law k_law).binds (ps := ["script"]) fun _ _ _ _ _ _ us hl => match us, hl with | [_], _ => rfl⟩, ⟨_, fun_mk (st := s_init) l_I c_I k_I, (fun_mk (st := s_init) l_I c_I k_I).binds (ps := ["self", "at"]) (fun _ _ _ _ _ _ us hl => match us, hl with | [_, _], _ => rfl), t_I⟩, { g := PySem.W.mg_of X G xg_HouseError, o := ⟨⟨nm_HouseError, q_HouseError, N_HouseError, bs_HouseError, _, sn_HouseError, sub_HouseError, ab_HouseError, col_HouseError, dd_HouseError, m0_HouseError, m1_HouseError, m2_HouseError, m3_HouseError, m5_HouseError, xx_HouseError, by first | decide +kernel | rfl⟩, xs_HouseError, xb_HouseError, xt_HouseError, xk_HouseError⟩, i := xi_HouseError, no := xat_HouseError, f := ⟨xga_HouseError, xgg_HouseError, xb_HouseError, xh_HouseError⟩ }, { g := PySem.W.mg_of X G xg_BadLine, o := ⟨⟨nm_BadLine, q_BadLine, N_BadLine, bs_BadLine, _, sn_BadLine, sub_BadLine, ab_BadLine, col_BadLine, dd_BadLine, m0_BadLine, m1_BadLine, m2_BadLine, m3_BadLine, m5_BadLine, xx_BadLine, by first | decide +kernel | rfl⟩, xs_BadLine, xb_BadLine, xt_BadLine, xk_BadLine⟩, i := xi_BadLine, no := xat_BadLine, f := ⟨xga_BadLine, xgg_BadLine, xb_BadLine, xh_BadLine⟩ }, { g := PySem.W.mg_of X G xg_BadText, o := ⟨⟨nm_BadText, q_BadText, N_BadText, bs_BadText, _, sn_BadText, sub_BadText, ab_BadText, col_BadText, dd_BadText, m0_BadText, m1_BadText, m2_BadText, m3_BadText, m5_BadText, xx_BadText, by first | decide +kernel | rfl⟩, xs_BadText, xb_BadText, xt_BadText, xk_BadText⟩, i := xi_BadText, no := xat_BadText, f := ⟨xga_BadText, xgg_BadText, xb_BadText, xh_BadText⟩ }, { g := PySem.W.mg_of X G xg_WrongOrder, o := ⟨⟨nm_WrongOrder, q_WrongOrder, N_WrongOrder, bs_WrongOrder, _, sn_WrongOrder, sub_WrongOrder, ab_WrongOrder, col_WrongOrder, dd_WrongOrder, m0_WrongOrder, m1_WrongOrder, m2_WrongOrder, m3_WrongOrder, m5_WrongOrder, xx_WrongOrder, by first | decide +kernel | rfl⟩, xs_WrongOrder, xb_WrongOrder, xt_WrongOrder, xk_WrongOrder⟩, i := xi_WrongOrder, no := xat_WrongOrder, f := ⟨xga_WrongOrder, xgg_WrongOrder, xb_WrongOrder, xh_WrongOrder⟩ }, { g := PySem.W.mg_of X G xg_TooMany, o := ⟨⟨nm_TooMany, q_TooMany, N_TooMany, bs_TooMany, _, sn_TooMany, sub_TooMany, ab_TooMany, col_TooMany, dd_TooMany, m0_TooMany, m1_TooMany, m2_TooMany, m3_TooMany, m5_TooMany, xx_TooMany, by first | decide +kernel | rfl⟩, xs_TooMany, xb_TooMany, xt_TooMany, xk_TooMany⟩, i := xi_TooMany, no := xat_TooMany, f := ⟨xga_TooMany, xgg_TooMany, xb_TooMany, xh_TooMany⟩ }, { g := PySem.W.mg_of X G xg_TakenNumber, o := ⟨⟨nm_TakenNumber, q_TakenNumber, N_TakenNumber, bs_TakenNumber, _, sn_TakenNumber, sub_TakenNumber, ab_TakenNumber, col_TakenNumber, dd_TakenNumber, m0_TakenNumber, m1_TakenNumber, m2_TakenNumber, m3_TakenNumber, m5_TakenNumber, xx_TakenNumber, by first | decide +kernel | rfl⟩, xs_TakenNumber, xb_TakenNumber, xt_TakenNumber, xk_TakenNumber⟩, i := xi_TakenNumber, no := xat_TakenNumber, f := ⟨xga_TakenNumber, xgg_TakenNumber, xb_TakenNumber, xh_TakenNumber⟩ }, { g := PySem.W.mg_of X G xg_NoText, o := ⟨⟨nm_NoText, q_NoText, N_NoText, bs_NoText, _, sn_NoText, sub_NoText, ab_NoText, col_NoText, dd_NoText, m0_NoText, m1_NoText, m2_NoText, m3_NoText, m5_NoText, xx_NoText, by first | decide +kernel | rfl⟩, xs_NoText, xb_NoText, xt_NoText, xk_NoText⟩, i := xi_NoText, no := xat_NoText, f := ⟨xga_NoText, xgg_NoText, xb_NoText, xh_NoText⟩ }, { g := PySem.W.mg_of X G xg_OutOfRange, o := ⟨⟨nm_OutOfRange, q_OutOfRange, N_OutOfRange, bs_OutOfRange, _, sn_OutOfRange, sub_OutOfRange, ab_OutOfRange, col_OutOfRange, dd_OutOfRange, m0_OutOfRange, m1_OutOfRange, m2_OutOfRange, m3_OutOfRange, m5_OutOfRange, xx_OutOfRange, by first | decide +kernel | rfl⟩, xs_OutOfRange, xb_OutOfRange, xt_OutOfRange, xk_OutOfRange⟩, i := xi_OutOfRange, no := xat_OutOfRange, f := ⟨xga_OutOfRange, xgg_OutOfRange, xb_OutOfRange, xh_OutOfRange⟩ }, { g := PySem.W.mg_of X G xg_BadStep, o := ⟨⟨nm_BadStep, q_BadStep, N_BadStep, bs_BadStep, _, sn_BadStep, sub_BadStep, ab_BadStep, col_BadStep, dd_BadStep, m0_BadStep, m1_BadStep, m2_BadStep, m3_BadStep, m5_BadStep, xx_BadStep, by first | decide +kernel | rfl⟩, xs_BadStep, xb_BadStep, xt_BadStep, xk_BadStep⟩, i := xi_BadStep, no := xat_BadStep, f := ⟨xga_BadStep, xgg_BadStep, xb_BadStep, xh_BadStep⟩ }, { g := PySem.W.mg_of X G xg_NoChange, o := ⟨⟨nm_NoChange, q_NoChange, N_NoChange, bs_NoChange, _, sn_NoChange, sub_NoChange, ab_NoChange, col_NoChange, dd_NoChange, m0_NoChange, m1_NoChange, m2_NoChange, m3_NoChange, m5_NoChange, xx_NoChange, by first | decide +kernel | rfl⟩, xs_NoChange, xb_NoChange, xt_NoChange, xk_NoChange⟩, i := xi_NoChange, no := xat_NoChange, f := ⟨xga_NoChange, xgg_NoChange, xb_NoChange, xh_NoChange⟩ }, ⟨xga_HouseError, xgg_HouseError, xb_HouseError, xh_HouseError, xha_HouseError, h_n, h_t, xhm_HouseError⟩, kit_refT xhv_HouseError, ⟨xga_BadLine, xgg_BadLine, xb_BadLine, xh_BadLine, xha_BadLine, h_n, h_t, xhm_BadLine⟩, kit_refT xhv_BadLine, ⟨xga_BadText, xgg_BadText, xb_BadText, xh_BadText, xha_BadText, h_n, h_t, xhm_BadText⟩, kit_refT xhv_BadText, ⟨xga_WrongOrder, xgg_WrongOrder, xb_WrongOrder, xh_WrongOrder, xha_WrongOrder, h_n, h_t, xhm_WrongOrder⟩, kit_refT xhv_WrongOrder, ⟨xga_TooMany, xgg_TooMany, xb_TooMany, xh_TooMany, xha_TooMany, h_n, h_t, xhm_TooMany⟩, kit_refT xhv_TooMany, ⟨xga_TakenNumber, xgg_TakenNumber, xb_TakenNumber, xh_TakenNumber, xha_TakenNumber, h_n, h_t, xhm_TakenNumber⟩, kit_refT xhv_TakenNumber, ⟨xga_NoText, xgg_NoText, xb_NoText, xh_NoText, xha_NoText, h_n, h_t, xhm_NoText⟩, kit_refT xhv_NoText, ⟨xga_OutOfRange, xgg_OutOfRange, xb_OutOfRange, xh_OutOfRange, xha_OutOfRange, h_n, h_t, xhm_OutOfRange⟩, kit_refT xhv_OutOfRange, ⟨xga_BadStep, xgg_BadStep, xb_BadStep, xh_BadStep, xha_BadStep, h_n, h_t, xhm_BadStep⟩, kit_refT xhv_BadStep, ⟨xga_NoChange, xgg_NoChange, xb_NoChange, xh_NoChange, xha_NoChange, h_n, h_t, xhm_NoChange⟩, kit_refT xhv_NoChange, kit_refB xis_HouseError xt_HouseError s_HouseError_HouseError s_HouseError_HouseError, kit_refB xis_BadLine xt_BadLine s_HouseError_HouseError s_HouseError_BadLine, kit_refB xis_BadText xt_BadText s_HouseError_HouseError s_HouseError_BadText, kit_refB xis_WrongOrder xt_WrongOrder s_HouseError_HouseError s_HouseError_WrongOrder, kit_refB xis_TooMany xt_TooMany s_HouseError_HouseError s_HouseError_TooMany, kit_refB xis_TakenNumber xt_TakenNumber s_HouseError_HouseError s_HouseError_TakenNumber, kit_refB xis_NoText xt_NoText s_HouseError_HouseError s_HouseError_NoText, kit_refB xis_OutOfRange xt_OutOfRange s_HouseError_HouseError s_HouseError_OutOfRange, kit_refB xis_BadStep xt_BadStep s_HouseError_HouseError s_HouseError_BadStep, kit_refB xis_NoChange xt_NoChange s_HouseError_HouseError s_HouseError_NoChange, kit_refB xis_HouseError xt_HouseError s_BadLine_BadLine s_BadLine_HouseError, kit_refB xis_BadLine xt_BadLine s_BadLine_BadLine s_BadLine_BadLine, kit_refB xis_BadText xt_BadText s_BadLine_BadLine s_BadLine_BadText, kit_refB xis_WrongOrder xt_WrongOrder s_BadLine_BadLine s_BadLine_WrongOrder, kit_refB xis_TooMany xt_TooMany s_BadLine_BadLine s_BadLine_TooMany, kit_refB xis_TakenNumber xt_TakenNumber s_BadLine_BadLine s_BadLine_TakenNumber, kit_refB xis_NoText xt_NoText s_BadLine_BadLine s_BadLine_NoText, kit_refB xis_OutOfRange xt_OutOfRange s_BadLine_BadLine s_BadLine_OutOfRange, kit_refB xis_BadStep xt_BadStep s_BadLine_BadLine s_BadLine_BadStep, kit_refB xis_NoChange xt_NoChange s_BadLine_BadLine s_BadLine_NoChange, kit_refB xis_HouseError xt_HouseError s_BadText_BadText s_BadText_HouseError, kit_refB xis_BadLine xt_BadLine s_BadText_BadText s_BadText_BadLine, kit_refB xis_BadText xt_BadText s_BadText_BadText s_BadText_BadText, kit_refB xis_WrongOrder xt_WrongOrder s_BadText_BadText s_BadText_WrongOrder, kit_refB xis_TooMany xt_TooMany s_BadText_BadText s_BadText_TooMany, kit_refB xis_TakenNumber xt_TakenNumber s_BadText_BadText s_BadText_TakenNumber, kit_refB xis_NoText xt_NoText s_BadText_BadText s_BadText_NoText, kit_refB xis_OutOfRange xt_OutOfRange s_BadText_BadText s_BadText_OutOfRange, kit_refB xis_BadStep xt_BadStep s_BadText_BadText s_BadText_BadStep, kit_refB xis_NoChange xt_NoChange s_BadText_BadText s_BadText_NoChange, kit_refB xis_HouseError xt_HouseError s_WrongOrder_WrongOrder s_WrongOrder_HouseError, kit_refB xis_BadLine xt_BadLine s_WrongOrder_WrongOrder s_WrongOrder_BadLine, kit_refB xis_BadText xt_BadText s_WrongOrder_WrongOrder s_WrongOrder_BadText, kit_refB xis_WrongOrder xt_WrongOrder s_WrongOrder_WrongOrder s_WrongOrder_WrongOrder, kit_refB xis_TooMany xt_TooMany s_WrongOrder_WrongOrder s_WrongOrder_TooMany, kit_refB xis_TakenNumber xt_TakenNumber s_WrongOrder_WrongOrder s_WrongOrder_TakenNumber, kit_refB xis_NoText xt_NoText s_WrongOrder_WrongOrder s_WrongOrder_NoText, kit_refB xis_OutOfRange xt_OutOfRange s_WrongOrder_WrongOrder s_WrongOrder_OutOfRange, kit_refB xis_BadStep xt_BadStep s_WrongOrder_WrongOrder s_WrongOrder_BadStep, kit_refB xis_NoChange xt_NoChange s_WrongOrder_WrongOrder s_WrongOrder_NoChange, kit_refB xis_HouseError xt_HouseError s_TooMany_TooMany s_TooMany_HouseError, kit_refB xis_BadLine xt_BadLine s_TooMany_TooMany s_TooMany_BadLine, kit_refB xis_BadText xt_BadText s_TooMany_TooMany s_TooMany_BadText, kit_refB xis_WrongOrder xt_WrongOrder s_TooMany_TooMany s_TooMany_WrongOrder, kit_refB xis_TooMany xt_TooMany s_TooMany_TooMany s_TooMany_TooMany, kit_refB xis_TakenNumber xt_TakenNumber s_TooMany_TooMany s_TooMany_TakenNumber, kit_refB xis_NoText xt_NoText s_TooMany_TooMany s_TooMany_NoText, kit_refB xis_OutOfRange xt_OutOfRange s_TooMany_TooMany s_TooMany_OutOfRange, kit_refB xis_BadStep xt_BadStep s_TooMany_TooMany s_TooMany_BadStep, kit_refB xis_NoChange xt_NoChange s_TooMany_TooMany s_TooMany_NoChange, kit_refB xis_HouseError xt_HouseError s_TakenNumber_TakenNumber s_TakenNumber_HouseError, kit_refB xis_BadLine xt_BadLine s_TakenNumber_TakenNumber s_TakenNumber_BadLine, kit_refB xis_BadText xt_BadText s_TakenNumber_TakenNumber s_TakenNumber_BadText, kit_refB xis_WrongOrder xt_WrongOrder s_TakenNumber_TakenNumber s_TakenNumber_WrongOrder, kit_refB xis_TooMany xt_TooMany s_TakenNumber_TakenNumber s_TakenNumber_TooMany, kit_refB xis_TakenNumber xt_TakenNumber s_TakenNumber_TakenNumber s_TakenNumber_TakenNumber, kit_refB xis_NoText xt_NoText s_TakenNumber_TakenNumber s_TakenNumber_NoText, kit_refB xis_OutOfRange xt_OutOfRange s_TakenNumber_TakenNumber s_TakenNumber_OutOfRange, kit_refB xis_BadStep xt_BadStep s_TakenNumber_TakenNumber s_TakenNumber_BadStep, kit_refB xis_NoChange xt_NoChange s_TakenNumber_TakenNumber s_TakenNumber_NoChange, kit_refB xis_HouseError xt_HouseError s_NoText_NoText s_NoText_HouseError, kit_refB xis_BadLine xt_BadLine s_NoText_NoText s_NoText_BadLine, kit_refB xis_BadText xt_BadText s_NoText_NoText s_NoText_BadText, kit_refB xis_WrongOrder xt_WrongOrder s_NoText_NoText s_NoText_WrongOrder, kit_refB xis_TooMany xt_TooMany s_NoText_NoText s_NoText_TooMany, kit_refB xis_TakenNumber xt_TakenNumber s_NoText_NoText s_NoText_TakenNumber, kit_refB xis_NoText xt_NoText s_NoText_NoText s_NoText_NoText, kit_refB xis_OutOfRange xt_OutOfRange s_NoText_NoText s_NoText_OutOfRange, kit_refB xis_BadStep xt_BadStep s_NoText_NoText s_NoText_BadStep, kit_refB xis_NoChange xt_NoChange s_NoText_NoText s_NoText_NoChange, kit_refB xis_HouseError xt_HouseError s_OutOfRange_OutOfRange s_OutOfRange_HouseError, kit_refB xis_BadLine xt_BadLine s_OutOfRange_OutOfRange s_OutOfRange_BadLine, kit_refB xis_BadText xt_BadText s_OutOfRange_OutOfRange s_OutOfRange_BadText, kit_refB xis_WrongOrder xt_WrongOrder s_OutOfRange_OutOfRange s_OutOfRange_WrongOrder, kit_refB xis_TooMany xt_TooMany s_OutOfRange_OutOfRange s_OutOfRange_TooMany, kit_refB xis_TakenNumber xt_TakenNumber s_OutOfRange_OutOfRange s_OutOfRange_TakenNumber, kit_refB xis_NoText xt_NoText s_OutOfRange_OutOfRange s_OutOfRange_NoText, kit_refB xis_OutOfRange xt_OutOfRange s_OutOfRange_OutOfRange s_OutOfRange_OutOfRange, kit_refB xis_BadStep xt_BadStep s_OutOfRange_OutOfRange s_OutOfRange_BadStep, kit_refB xis_NoChange xt_NoChange s_OutOfRange_OutOfRange s_OutOfRange_NoChange, kit_refB xis_HouseError xt_HouseError s_BadStep_BadStep s_BadStep_HouseError, kit_refB xis_BadLine xt_BadLine s_BadStep_BadStep s_BadStep_BadLine, kit_refB xis_BadText xt_BadText s_BadStep_BadStep s_BadStep_BadText, kit_refB xis_WrongOrder xt_WrongOrder s_BadStep_BadStep s_BadStep_WrongOrder, kit_refB xis_TooMany xt_TooMany s_BadStep_BadStep s_BadStep_TooMany, kit_refB xis_TakenNumber xt_TakenNumber s_BadStep_BadStep s_BadStep_TakenNumber, kit_refB xis_NoText xt_NoText s_BadStep_BadStep s_BadStep_NoText, kit_refB xis_OutOfRange xt_OutOfRange s_BadStep_BadStep s_BadStep_OutOfRange, kit_refB xis_BadStep xt_BadStep s_BadStep_BadStep s_BadStep_BadStep, kit_refB xis_NoChange xt_NoChange s_BadStep_BadStep s_BadStep_NoChange, kit_refB xis_HouseError xt_HouseError s_NoChange_NoChange s_NoChange_HouseError, kit_refB xis_BadLine xt_BadLine s_NoChange_NoChange s_NoChange_BadLine, kit_refB xis_BadText xt_BadText s_NoChange_NoChange s_NoChange_BadText, kit_refB xis_WrongOrder xt_WrongOrder s_NoChange_NoChange s_NoChange_WrongOrder, kit_refB xis_TooMany xt_TooMany s_NoChange_NoChange s_NoChange_TooMany, kit_refB xis_TakenNumber xt_TakenNumber s_NoChange_NoChange s_NoChange_TakenNumber, kit_refB xis_NoText xt_NoText s_NoChange_NoChange s_NoChange_NoText, kit_refB xis_OutOfRange xt_OutOfRange s_NoChange_NoChange s_NoChange_OutOfRange, kit_refB xis_BadStep xt_BadStep s_NoChange_NoChange s_NoChange_BadStep, kit_refB xis_NoChange xt_NoChange s_NoChange_NoChange s_NoChange_NoChange⟩
  exact ⟨PySem.W.fnOf "law" "law" (defArgs s_law) (defBody s_law) (defScope s_law) .none kV_law dc_law pm_law an_law cd_law ct_law, fun s v => .of_eq rfl, fun base _ _ => law_all T (fun_mk (st := s_law) l_law c_law k_law)⟩
end SH
open PySem PySem.W PyProof.Rows
set_option maxHeartbeats 0 in
theorem PySem.Challenge.cw_suffixhouse_k06_errors_are_apart_holds : PySem.Challenge.rw_suffixhouse_k06_errors_are_apart.Holds := by
  w_on; o_law; k_head; (case hw => w_witness2)
  k_fill
  refine L2.walk_of (l := PySem.Challenge.rw_suffixhouse_k06_errors_are_apart) (n := 63) (k := 4) (x := "script") (CX := fun _ => L2.CX0) (sp := fun w => SH.spLaw _) rfl (by decide) rfl ⟨rfl, by decide, by decide⟩ (fun w h Y => PySem.W.kIn_of Y) ?F (fun _ _ a ns hl _ hS => ⟨a, ns, rfl, hS, hl, fun _ => rfl⟩) (fun _ _ _ _ _ h => h)
  case F =>
    intro w mg fa h KX G hmg
    refine' SH.all_mk KX G hmg ?z_ValueError ?z_bool ?z_int ?z_isinstance ?z_len ?z_range ?a__law_first ?l__law_first ?c__law_first ?k__law_first ?a__law_second ?l__law_second ?c__law_second ?k__law_second ?a__law_kinds ?l__law_kinds ?c__law_kinds ?k__law_kinds ?a_law ?l_law ?c_law ?k_law ?xg_HouseError ?xx_HouseError ?xs_HouseError ?xga_HouseError ?xgg_HouseError ?xat_HouseError ?xi_HouseError ?xb_HouseError ?xt_HouseError ?xh_HouseError ?xk_HouseError ?xis_HouseError ?xg_BadLine ?xx_BadLine ?xs_BadLine ?xga_BadLine ?xgg_BadLine ?xat_BadLine ?xi_BadLine ?xb_BadLine ?xt_BadLine ?xh_BadLine ?xk_BadLine ?xis_BadLine ?xg_BadText ?xx_BadText ?xs_BadText ?xga_BadText ?xgg_BadText ?xat_BadText ?xi_BadText ?xb_BadText ?xt_BadText ?xh_BadText ?xk_BadText ?xis_BadText ?xg_WrongOrder ?xx_WrongOrder ?xs_WrongOrder ?xga_WrongOrder ?xgg_WrongOrder ?xat_WrongOrder ?xi_WrongOrder ?xb_WrongOrder ?xt_WrongOrder ?xh_WrongOrder ?xk_WrongOrder ?xis_WrongOrder ?xg_TooMany ?xx_TooMany ?xs_TooMany ?xga_TooMany ?xgg_TooMany ?xat_TooMany ?xi_TooMany ?xb_TooMany ?xt_TooMany ?xh_TooMany ?xk_TooMany ?xis_TooMany ?xg_TakenNumber ?xx_TakenNumber ?xs_TakenNumber ?xga_TakenNumber ?xgg_TakenNumber ?xat_TakenNumber ?xi_TakenNumber ?xb_TakenNumber ?xt_TakenNumber ?xh_TakenNumber ?xk_TakenNumber ?xis_TakenNumber ?xg_NoText ?xx_NoText ?xs_NoText ?xga_NoText ?xgg_NoText ?xat_NoText ?xi_NoText ?xb_NoText ?xt_NoText ?xh_NoText ?xk_NoText ?xis_NoText ?xg_OutOfRange ?xx_OutOfRange ?xs_OutOfRange ?xga_OutOfRange ?xgg_OutOfRange ?xat_OutOfRange ?xi_OutOfRange ?xb_OutOfRange ?xt_OutOfRange ?xh_OutOfRange ?xk_OutOfRange ?xis_OutOfRange ?xg_BadStep ?xx_BadStep ?xs_BadStep ?xga_BadStep ?xgg_BadStep ?xat_BadStep ?xi_BadStep ?xb_BadStep ?xt_BadStep ?xh_BadStep ?xk_BadStep ?xis_BadStep ?xg_NoChange ?xx_NoChange ?xs_NoChange ?xga_NoChange ?xgg_NoChange ?xat_NoChange ?xi_NoChange ?xb_NoChange ?xt_NoChange ?xh_NoChange ?xk_NoChange ?xis_NoChange ?l_I ?c_I ?k_I ?t_I ?h_n ?h_t ?xha_HouseError ?xhm_HouseError ?xhv_HouseError ?xha_BadLine ?xhm_BadLine ?xhv_BadLine ?xha_BadText ?xhm_BadText ?xhv_BadText ?xha_WrongOrder ?xhm_WrongOrder ?xhv_WrongOrder ?xha_TooMany ?xhm_TooMany ?xhv_TooMany ?xha_TakenNumber ?xhm_TakenNumber ?xhv_TakenNumber ?xha_NoText ?xhm_NoText ?xhv_NoText ?xha_OutOfRange ?xhm_OutOfRange ?xhv_OutOfRange ?xha_BadStep ?xhm_BadStep ?xhv_BadStep ?xha_NoChange ?xhm_NoChange ?xhv_NoChange ?s_HouseError_HouseError ?s_HouseError_BadLine ?s_HouseError_BadText ?s_HouseError_WrongOrder ?s_HouseError_TooMany ?s_HouseError_TakenNumber ?s_HouseError_NoText ?s_HouseError_OutOfRange ?s_HouseError_BadStep ?s_HouseError_NoChange ?s_BadLine_HouseError ?s_BadLine_BadLine ?s_BadLine_BadText ?s_BadLine_WrongOrder ?s_BadLine_TooMany ?s_BadLine_TakenNumber ?s_BadLine_NoText ?s_BadLine_OutOfRange ?s_BadLine_BadStep ?s_BadLine_NoChange ?s_BadText_HouseError ?s_BadText_BadLine ?s_BadText_BadText ?s_BadText_WrongOrder ?s_BadText_TooMany ?s_BadText_TakenNumber ?s_BadText_NoText ?s_BadText_OutOfRange ?s_BadText_BadStep ?s_BadText_NoChange ?s_WrongOrder_HouseError ?s_WrongOrder_BadLine ?s_WrongOrder_BadText ?s_WrongOrder_WrongOrder ?s_WrongOrder_TooMany ?s_WrongOrder_TakenNumber ?s_WrongOrder_NoText ?s_WrongOrder_OutOfRange ?s_WrongOrder_BadStep ?s_WrongOrder_NoChange ?s_TooMany_HouseError ?s_TooMany_BadLine ?s_TooMany_BadText ?s_TooMany_WrongOrder ?s_TooMany_TooMany ?s_TooMany_TakenNumber ?s_TooMany_NoText ?s_TooMany_OutOfRange ?s_TooMany_BadStep ?s_TooMany_NoChange ?s_TakenNumber_HouseError ?s_TakenNumber_BadLine ?s_TakenNumber_BadText ?s_TakenNumber_WrongOrder ?s_TakenNumber_TooMany ?s_TakenNumber_TakenNumber ?s_TakenNumber_NoText ?s_TakenNumber_OutOfRange ?s_TakenNumber_BadStep ?s_TakenNumber_NoChange ?s_NoText_HouseError ?s_NoText_BadLine ?s_NoText_BadText ?s_NoText_WrongOrder ?s_NoText_TooMany ?s_NoText_TakenNumber ?s_NoText_NoText ?s_NoText_OutOfRange ?s_NoText_BadStep ?s_NoText_NoChange ?s_OutOfRange_HouseError ?s_OutOfRange_BadLine ?s_OutOfRange_BadText ?s_OutOfRange_WrongOrder ?s_OutOfRange_TooMany ?s_OutOfRange_TakenNumber ?s_OutOfRange_NoText ?s_OutOfRange_OutOfRange ?s_OutOfRange_BadStep ?s_OutOfRange_NoChange ?s_BadStep_HouseError ?s_BadStep_BadLine ?s_BadStep_BadText ?s_BadStep_WrongOrder ?s_BadStep_TooMany ?s_BadStep_TakenNumber ?s_BadStep_NoText ?s_BadStep_OutOfRange ?s_BadStep_BadStep ?s_BadStep_NoChange ?s_NoChange_HouseError ?s_NoChange_BadLine ?s_NoChange_BadText ?s_NoChange_WrongOrder ?s_NoChange_TooMany ?s_NoChange_TakenNumber ?s_NoChange_NoText ?s_NoChange_OutOfRange ?s_NoChange_BadStep ?s_NoChange_NoChange
    (case z_ValueError => first | k_is | rfl)
    (case z_bool => first | k_is | rfl)
    (case z_int => first | k_is | rfl)
    (case z_isinstance => first | k_is | rfl)
    (case z_len => first | k_is | rfl)
    (case z_range => first | k_is | rfl)
    (case a__law_first => first | k_is | rfl)
    (case l__law_first => first | k_is | rfl)
    (case c__law_first => first | k_is | rfl)
    (case k__law_first => first | k_is | rfl)
    (case a__law_second => first | k_is | rfl)
    (case l__law_second => first | k_is | rfl)
    (case c__law_second => first | k_is | rfl)
    (case k__law_second => first | k_is | rfl)
    (case a__law_kinds => first | k_is | rfl)
    (case l__law_kinds => first | k_is | rfl)
    (case c__law_kinds => first | k_is | rfl)
    (case k__law_kinds => first | k_is | rfl)
    (case a_law => first | k_is | rfl)
    (case l_law => first | k_is | rfl)
    (case c_law => first | k_is | rfl)
    (case k_law => first | k_is | rfl)
    (case xg_HouseError => first | k_is | rfl)
    (case xx_HouseError => first | k_is | rfl)
    (case xs_HouseError => first | k_is | rfl)
    (case xga_HouseError => first | k_is | rfl)
    (case xgg_HouseError => first | k_is | rfl)
    (case xat_HouseError => first | k_is | rfl)
    (case xi_HouseError => first | k_is | rfl)
    (case xb_HouseError => first | k_is | rfl)
    (case xt_HouseError => first | k_is | rfl)
    (case xh_HouseError => first | k_is | rfl)
    (case xk_HouseError => first | k_is | rfl)
    (case xis_HouseError => first | k_is | rfl)
    (case xg_BadLine => first | k_is | rfl)
    (case xx_BadLine => first | k_is | rfl)
    (case xs_BadLine => first | k_is | rfl)
    (case xga_BadLine => first | k_is | rfl)
    (case xgg_BadLine => first | k_is | rfl)
    (case xat_BadLine => first | k_is | rfl)
    (case xi_BadLine => first | k_is | rfl)
    (case xb_BadLine => first | k_is | rfl)
    (case xt_BadLine => first | k_is | rfl)
    (case xh_BadLine => first | k_is | rfl)
    (case xk_BadLine => first | k_is | rfl)
    (case xis_BadLine => first | k_is | rfl)
    (case xg_BadText => first | k_is | rfl)
    (case xx_BadText => first | k_is | rfl)
    (case xs_BadText => first | k_is | rfl)
    (case xga_BadText => first | k_is | rfl)
    (case xgg_BadText => first | k_is | rfl)
    (case xat_BadText => first | k_is | rfl)
    (case xi_BadText => first | k_is | rfl)
    (case xb_BadText => first | k_is | rfl)
    (case xt_BadText => first | k_is | rfl)
    (case xh_BadText => first | k_is | rfl)
    (case xk_BadText => first | k_is | rfl)
    (case xis_BadText => first | k_is | rfl)
    (case xg_WrongOrder => first | k_is | rfl)
    (case xx_WrongOrder => first | k_is | rfl)
    (case xs_WrongOrder => first | k_is | rfl)
    (case xga_WrongOrder => first | k_is | rfl)
    (case xgg_WrongOrder => first | k_is | rfl)
    (case xat_WrongOrder => first | k_is | rfl)
    (case xi_WrongOrder => first | k_is | rfl)
    (case xb_WrongOrder => first | k_is | rfl)
    (case xt_WrongOrder => first | k_is | rfl)
    (case xh_WrongOrder => first | k_is | rfl)
    (case xk_WrongOrder => first | k_is | rfl)
    (case xis_WrongOrder => first | k_is | rfl)
    (case xg_TooMany => first | k_is | rfl)
    (case xx_TooMany => first | k_is | rfl)
    (case xs_TooMany => first | k_is | rfl)
    (case xga_TooMany => first | k_is | rfl)
    (case xgg_TooMany => first | k_is | rfl)
    (case xat_TooMany => first | k_is | rfl)
    (case xi_TooMany => first | k_is | rfl)
    (case xb_TooMany => first | k_is | rfl)
    (case xt_TooMany => first | k_is | rfl)
    (case xh_TooMany => first | k_is | rfl)
    (case xk_TooMany => first | k_is | rfl)
    (case xis_TooMany => first | k_is | rfl)
    (case xg_TakenNumber => first | k_is | rfl)
    (case xx_TakenNumber => first | k_is | rfl)
    (case xs_TakenNumber => first | k_is | rfl)
    (case xga_TakenNumber => first | k_is | rfl)
    (case xgg_TakenNumber => first | k_is | rfl)
    (case xat_TakenNumber => first | k_is | rfl)
    (case xi_TakenNumber => first | k_is | rfl)
    (case xb_TakenNumber => first | k_is | rfl)
    (case xt_TakenNumber => first | k_is | rfl)
    (case xh_TakenNumber => first | k_is | rfl)
    (case xk_TakenNumber => first | k_is | rfl)
    (case xis_TakenNumber => first | k_is | rfl)
    (case xg_NoText => first | k_is | rfl)
    (case xx_NoText => first | k_is | rfl)
    (case xs_NoText => first | k_is | rfl)
    (case xga_NoText => first | k_is | rfl)
    (case xgg_NoText => first | k_is | rfl)
    (case xat_NoText => first | k_is | rfl)
    (case xi_NoText => first | k_is | rfl)
    (case xb_NoText => first | k_is | rfl)
    (case xt_NoText => first | k_is | rfl)
    (case xh_NoText => first | k_is | rfl)
    (case xk_NoText => first | k_is | rfl)
    (case xis_NoText => first | k_is | rfl)
    (case xg_OutOfRange => first | k_is | rfl)
    (case xx_OutOfRange => first | k_is | rfl)
    (case xs_OutOfRange => first | k_is | rfl)
    (case xga_OutOfRange => first | k_is | rfl)
    (case xgg_OutOfRange => first | k_is | rfl)
    (case xat_OutOfRange => first | k_is | rfl)
    (case xi_OutOfRange => first | k_is | rfl)
    (case xb_OutOfRange => first | k_is | rfl)
    (case xt_OutOfRange => first | k_is | rfl)
    (case xh_OutOfRange => first | k_is | rfl)
    (case xk_OutOfRange => first | k_is | rfl)
    (case xis_OutOfRange => first | k_is | rfl)
    (case xg_BadStep => first | k_is | rfl)
    (case xx_BadStep => first | k_is | rfl)
    (case xs_BadStep => first | k_is | rfl)
    (case xga_BadStep => first | k_is | rfl)
    (case xgg_BadStep => first | k_is | rfl)
    (case xat_BadStep => first | k_is | rfl)
    (case xi_BadStep => first | k_is | rfl)
    (case xb_BadStep => first | k_is | rfl)
    (case xt_BadStep => first | k_is | rfl)
    (case xh_BadStep => first | k_is | rfl)
    (case xk_BadStep => first | k_is | rfl)
    (case xis_BadStep => first | k_is | rfl)
    (case xg_NoChange => first | k_is | rfl)
    (case xx_NoChange => first | k_is | rfl)
    (case xs_NoChange => first | k_is | rfl)
    (case xga_NoChange => first | k_is | rfl)
    (case xgg_NoChange => first | k_is | rfl)
    (case xat_NoChange => first | k_is | rfl)
    (case xi_NoChange => first | k_is | rfl)
    (case xb_NoChange => first | k_is | rfl)
    (case xt_NoChange => first | k_is | rfl)
    (case xh_NoChange => first | k_is | rfl)
    (case xk_NoChange => first | k_is | rfl)
    (case xis_NoChange => first | k_is | rfl)
    (case l_I => first | k_is | rfl)
    (case c_I => first | k_is | rfl)
    (case k_I => first | k_is | rfl)
    (case t_I => first | k_is | rfl)
    (case h_n => first | k_is | rfl)
    (case h_t => first | k_is | rfl)
    (case xha_HouseError => first | k_is | rfl)
    (case xhm_HouseError => first | k_is | rfl)
    (case xhv_HouseError => first | k_is | rfl)
    (case xha_BadLine => first | k_is | rfl)
    (case xhm_BadLine => first | k_is | rfl)
    (case xhv_BadLine => first | k_is | rfl)
    (case xha_BadText => first | k_is | rfl)
    (case xhm_BadText => first | k_is | rfl)
    (case xhv_BadText => first | k_is | rfl)
    (case xha_WrongOrder => first | k_is | rfl)
    (case xhm_WrongOrder => first | k_is | rfl)
    (case xhv_WrongOrder => first | k_is | rfl)
    (case xha_TooMany => first | k_is | rfl)
    (case xhm_TooMany => first | k_is | rfl)
    (case xhv_TooMany => first | k_is | rfl)
    (case xha_TakenNumber => first | k_is | rfl)
    (case xhm_TakenNumber => first | k_is | rfl)
    (case xhv_TakenNumber => first | k_is | rfl)
    (case xha_NoText => first | k_is | rfl)
    (case xhm_NoText => first | k_is | rfl)
    (case xhv_NoText => first | k_is | rfl)
    (case xha_OutOfRange => first | k_is | rfl)
    (case xhm_OutOfRange => first | k_is | rfl)
    (case xhv_OutOfRange => first | k_is | rfl)
    (case xha_BadStep => first | k_is | rfl)
    (case xhm_BadStep => first | k_is | rfl)
    (case xhv_BadStep => first | k_is | rfl)
    (case xha_NoChange => first | k_is | rfl)
    (case xhm_NoChange => first | k_is | rfl)
    (case xhv_NoChange => first | k_is | rfl)
    (case s_HouseError_HouseError => first | k_is | rfl)
    (case s_HouseError_BadLine => first | k_is | rfl)
    (case s_HouseError_BadText => first | k_is | rfl)
    (case s_HouseError_WrongOrder => first | k_is | rfl)
    (case s_HouseError_TooMany => first | k_is | rfl)
    (case s_HouseError_TakenNumber => first | k_is | rfl)
    (case s_HouseError_NoText => first | k_is | rfl)
    (case s_HouseError_OutOfRange => first | k_is | rfl)
    (case s_HouseError_BadStep => first | k_is | rfl)
    (case s_HouseError_NoChange => first | k_is | rfl)
    (case s_BadLine_HouseError => first | k_is | rfl)
    (case s_BadLine_BadLine => first | k_is | rfl)
    (case s_BadLine_BadText => first | k_is | rfl)
    (case s_BadLine_WrongOrder => first | k_is | rfl)
    (case s_BadLine_TooMany => first | k_is | rfl)
    (case s_BadLine_TakenNumber => first | k_is | rfl)
    (case s_BadLine_NoText => first | k_is | rfl)
    (case s_BadLine_OutOfRange => first | k_is | rfl)
    (case s_BadLine_BadStep => first | k_is | rfl)
    (case s_BadLine_NoChange => first | k_is | rfl)
    (case s_BadText_HouseError => first | k_is | rfl)
    (case s_BadText_BadLine => first | k_is | rfl)
    (case s_BadText_BadText => first | k_is | rfl)
    (case s_BadText_WrongOrder => first | k_is | rfl)
    (case s_BadText_TooMany => first | k_is | rfl)
    (case s_BadText_TakenNumber => first | k_is | rfl)
    (case s_BadText_NoText => first | k_is | rfl)
    (case s_BadText_OutOfRange => first | k_is | rfl)
    (case s_BadText_BadStep => first | k_is | rfl)
    (case s_BadText_NoChange => first | k_is | rfl)
    (case s_WrongOrder_HouseError => first | k_is | rfl)
    (case s_WrongOrder_BadLine => first | k_is | rfl)
    (case s_WrongOrder_BadText => first | k_is | rfl)
    (case s_WrongOrder_WrongOrder => first | k_is | rfl)
    (case s_WrongOrder_TooMany => first | k_is | rfl)
    (case s_WrongOrder_TakenNumber => first | k_is | rfl)
    (case s_WrongOrder_NoText => first | k_is | rfl)
    (case s_WrongOrder_OutOfRange => first | k_is | rfl)
    (case s_WrongOrder_BadStep => first | k_is | rfl)
    (case s_WrongOrder_NoChange => first | k_is | rfl)
    (case s_TooMany_HouseError => first | k_is | rfl)
    (case s_TooMany_BadLine => first | k_is | rfl)
    (case s_TooMany_BadText => first | k_is | rfl)
    (case s_TooMany_WrongOrder => first | k_is | rfl)
    (case s_TooMany_TooMany => first | k_is | rfl)
    (case s_TooMany_TakenNumber => first | k_is | rfl)
    (case s_TooMany_NoText => first | k_is | rfl)
    (case s_TooMany_OutOfRange => first | k_is | rfl)
    (case s_TooMany_BadStep => first | k_is | rfl)
    (case s_TooMany_NoChange => first | k_is | rfl)
    (case s_TakenNumber_HouseError => first | k_is | rfl)
    (case s_TakenNumber_BadLine => first | k_is | rfl)
    (case s_TakenNumber_BadText => first | k_is | rfl)
    (case s_TakenNumber_WrongOrder => first | k_is | rfl)
    (case s_TakenNumber_TooMany => first | k_is | rfl)
    (case s_TakenNumber_TakenNumber => first | k_is | rfl)
    (case s_TakenNumber_NoText => first | k_is | rfl)
    (case s_TakenNumber_OutOfRange => first | k_is | rfl)
    (case s_TakenNumber_BadStep => first | k_is | rfl)
    (case s_TakenNumber_NoChange => first | k_is | rfl)
    (case s_NoText_HouseError => first | k_is | rfl)
    (case s_NoText_BadLine => first | k_is | rfl)
    (case s_NoText_BadText => first | k_is | rfl)
    (case s_NoText_WrongOrder => first | k_is | rfl)
    (case s_NoText_TooMany => first | k_is | rfl)
    (case s_NoText_TakenNumber => first | k_is | rfl)
    (case s_NoText_NoText => first | k_is | rfl)
    (case s_NoText_OutOfRange => first | k_is | rfl)
    (case s_NoText_BadStep => first | k_is | rfl)
    (case s_NoText_NoChange => first | k_is | rfl)
    (case s_OutOfRange_HouseError => first | k_is | rfl)
    (case s_OutOfRange_BadLine => first | k_is | rfl)
    (case s_OutOfRange_BadText => first | k_is | rfl)
    (case s_OutOfRange_WrongOrder => first | k_is | rfl)
    (case s_OutOfRange_TooMany => first | k_is | rfl)
    (case s_OutOfRange_TakenNumber => first | k_is | rfl)
    (case s_OutOfRange_NoText => first | k_is | rfl)
    (case s_OutOfRange_OutOfRange => first | k_is | rfl)
    (case s_OutOfRange_BadStep => first | k_is | rfl)
    (case s_OutOfRange_NoChange => first | k_is | rfl)
    (case s_BadStep_HouseError => first | k_is | rfl)
    (case s_BadStep_BadLine => first | k_is | rfl)
    (case s_BadStep_BadText => first | k_is | rfl)
    (case s_BadStep_WrongOrder => first | k_is | rfl)
    (case s_BadStep_TooMany => first | k_is | rfl)
    (case s_BadStep_TakenNumber => first | k_is | rfl)
    (case s_BadStep_NoText => first | k_is | rfl)
    (case s_BadStep_OutOfRange => first | k_is | rfl)
    (case s_BadStep_BadStep => first | k_is | rfl)
    (case s_BadStep_NoChange => first | k_is | rfl)
    (case s_NoChange_HouseError => first | k_is | rfl)
    (case s_NoChange_BadLine => first | k_is | rfl)
    (case s_NoChange_BadText => first | k_is | rfl)
    (case s_NoChange_WrongOrder => first | k_is | rfl)
    (case s_NoChange_TooMany => first | k_is | rfl)
    (case s_NoChange_TakenNumber => first | k_is | rfl)
    (case s_NoChange_NoText => first | k_is | rfl)
    (case s_NoChange_OutOfRange => first | k_is | rfl)
    (case s_NoChange_BadStep => first | k_is | rfl)
    (case s_NoChange_NoChange => first | k_is | rfl)
