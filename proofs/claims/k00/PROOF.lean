import PyProof.Rows.All
import Wide.All
import OpenK.AllK
import Wide.FinOn
import PyProof.EqAt
import PyProof.EqKinds
import PyProof.TupleCall
import HandS.ForMost
import HandS.Wide
import HandS.Codes
import HandS.TupLe
import HandS.Star
import HandS.StrMore
import HandS.FStr
import HandS.Evl
import HandS.Exc
import HandS.TryMany
import HandS.ExcInit
import HandS.ExcField
import HandS.WideBits
import HandS.WordsExc
import HandS.Walk
import HandS.SortRule
import PySem.Challenge.RW_suffixhouse_k00_houses
set_option Elab.async false
set_option linter.all false
set_option maxRecDepth 100000
set_option maxHeartbeats 4000000
namespace SH
open PySem PySem.Spec PyProof.Rows L2
section
variable {P : Program} {w : World} {K : PySem.W.Frag} {mg : Str → Option Value} {base : Heap}
/-- a def of the top as it stands: its text, its name's value, how it binds -/
structure Dd (K : PySem.W.Frag) (mg : Str → Option Value) (x : Str) (st : Stmt) (ps : List Str) : Prop where
  ex : ∃ (f : Addr) (fd : FuncData), Fun K x x st f fd ∧ mg x = some (.ref f) ∧ Binds K fd ps []
/-- a def that lets nothing out, callable by its name -/
abbrev Cl (P : Program) (w : World) (K : PySem.W.Frag) (mg : Str → Option Value) (base : Heap) (k : Nat) (x : Str) (sp : Sp) : Prop := C8.Cal P w K mg base k x sp []
/-- a def that may raise -/
structure ClX (P : Program) (w : World) (K : PySem.W.Frag) (mg : Str → Option Value) (base : Heap) (k : Nat) (x : Str) (sp : Sp) : Prop where
  ex : ∃ (f : Addr) (fd : FuncData) (ps : List Str), FnOk P w K mg base (L2.CX P w) k f fd ps sp ∧ mg x = some (.ref f) ∧ PySem.W.keepIn K (.ref f) = true ∧ Binds K fd ps []
theorem cl_of {x : Str} {st : Stmt} {ps N : List Str} {k : Nat} {sp : Sp} (D : Dd K mg x st ps) (S : FnScope N ps (defScope st)) (len : ∀ vs H Q E, sp vs H Q E → vs.length = ps.length)
    (hbody : ∀ (f : Addr) (cdv : Value) (A : Around) (outer : List Env) (s : Shared) (H : Hp) (vs : List V) (Q : VK) (E : XK), Room k (A.deeper (envOfC x (defScope st) s.heap.objs.size f cdv)) → sp vs H Q E →
      ∃ t, PSs (cxOf CX0 P w K mg base N x (defScope st) f cdv A outer s H E).nox (defBody st) t ∧ t { nx := fun _ H' => Q .non H', rt := Q } (start N vs) H) : Cl P w K mg base (k + 1) x sp := by
  obtain ⟨f, fd, F, hm, b⟩ := D.ex
  exact ⟨f, fd, ps, [], F.ok S len (fun cdv A outer s H vs Q E hr h => hbody f cdv A outer s H vs Q E hr h), hm, F.kp, b, .nil⟩
theorem clx_of {x : Str} {st : Stmt} {ps N : List Str} {k : Nat} {sp : Sp} (D : Dd K mg x st ps) (S : FnScope N ps (defScope st)) (len : ∀ vs H Q E, sp vs H Q E → vs.length = ps.length)
    (hbody : ∀ (f : Addr) (cdv : Value) (A : Around) (outer : List Env) (s : Shared) (H : Hp) (vs : List V) (Q : VK) (E : XK), Room k (A.deeper (envOfC x (defScope st) s.heap.objs.size f cdv)) → sp vs H Q E →
      ∃ t, PSs (cxOf (L2.CX P w) P w K mg base N x (defScope st) f cdv A outer s H E) (defBody st) t ∧ t { nx := fun _ H' => Q .non H', rt := Q } (start N vs) H) : ClX P w K mg base (k + 1) x sp := by
  obtain ⟨f, fd, F, hm, b⟩ := D.ex
  exact ⟨f, fd, ps, F.okX S len (fun cdv A outer s H vs Q E hr h => hbody f cdv A outer s H vs Q E hr h), hm, F.kp, b⟩
end
section
variable {X : Cx} {k j : Nat} {x : Str} {sp : Sp} {p pos : Pos} {e : Expr} {es : List Expr} {t : TA}
/-- f(e, ..) of a def that may raise, in a try's body or where it passes on -/
theorem pe_cx (c : ClX X.prog X.w X.K X.mg X.base k x sp) {E : L2.St → XK} (hr : Room j X.A) (hk : k ≤ j) (hx : ∀ σ, PassesAt (L2.CX X.prog X.w) X σ (E σ)) (hg : Gl X x) (ha : PA X (e :: es) t)
    (hdb : (x == ("__debug__" : Str)) = false := by decide) (he : starEach (e :: es) X.env = (false, eval e X.env) :: starEach es X.env := by rfl) (hpl : (backTo pos (starEach es X.env)).any (·.1) = false := by rfl) :
    PE X (.Call (.Name x p) (e :: es) [] pos) (tCallS sp E t) := by
  obtain ⟨f, fd, ps, F, hm, kp, b⟩ := c.ex
  exact pe_callS F (hr.mono hk) hg hm kp b hx ha hdb he hpl
end
theorem ixt {X : Cx} {K : PySem.W.Frag} (h : X.K = K := by rfl) : IxR X (rIxT K) := h ▸ ix_tup
theorem ixl {X : Cx} {K : PySem.W.Frag} (h : X.K = K := by rfl) : IxR X (rIxL K) := h ▸ ix_list
/-- a module's number -/
theorem pe_k {X : Cx} {x : Str} {pos : Pos} {v : Int} (h : ∃ t, X.mg x = some (.int v t)) (hg : Gl X x := by rfl) (hdb : (x == ("__debug__" : Str)) = false := by decide) : PE X (.Name x pos) (tC (.int v)) := by
  obtain ⟨t, h⟩ := h
  exact pe_glob hg h ⟨t, rfl⟩ hdb
/-! ### numbers drawn: a list of small numbers -/
def Dr (ns : List Int) : Prop := ns.length ≤ 4000 ∧ ∀ n ∈ ns, 0 ≤ n ∧ n < 65536
/-- r(draws, k, many): a number from 0 below many -/
def spDraw (K : PySem.W.Frag) : Sp := fun vs H Q _ => ∃ (a : Addr) (ns : List Int) (k many : Int), vs = [.ref a, .int k, .int many] ∧ SqL K H a (ns.map V.int) ∧ Dr ns ∧ 0 ≤ k ∧ k < 100000 ∧ 0 < many ∧ ∀ r : Int, 0 ≤ r → r < many → Q (.int r) H
theorem at_ints {ns : List Int} {i : Int} (h0 : 0 ≤ i) (h1 : i < ns.length) : ∃ z, atI (ns.map V.int) i = some (.int z) ∧ z ∈ ns := by
  obtain ⟨j, rfl⟩ : ∃ j : Nat, i = j := ⟨i.toNat, by omega⟩
  have hj : j < ns.length := by omega
  refine ⟨ns[j], ?_, List.getElem_mem hj⟩
  refine atI_nat ?_
  rw [List.getElem?_map, List.getElem?_eq_getElem hj]
  rfl
/-! ### heaps -/
theorem same_new {H : Hp} {p : Addr} {o : HO} (h : H p = none) : Same H (upd H p o) := fun b x e => by
  rw [upd_ne (ne_of_none e h)]
  exact e
theorem same_mut {H H' : Hp} {p : Addr} {o : HO} (e : Same H H') (h : H p = none) : Same H (upd H' p o) := fun b x hb => by
  rw [upd_ne (ne_of_none hb h)]
  exact e b x hb
theorem same_tup {K : PySem.W.Frag} {H H' : Hp} {a : Addr} {xs : List V} (e : Same H H') (h : SqT K H a xs) : SqT K H' a xs := by
  rcases h with (h | ⟨o, h⟩) | h
  · exact .inl (.inl (e _ _ h))
  · exact .inl (.inr ⟨o, e _ _ h⟩)
  · exact .inr h
/-! ### texts of letters -/
def okc (c : Nat) : Bool := decide (32 ≤ c) && (decide (c ≤ 126) && decide (c ≠ 37))
def IsLet (z : Str) : Prop := z.cps.toList.all okc = true
instance (z : Str) : Decidable (IsLet z) := inferInstanceAs (Decidable (_ = true))
theorem str_at {z : Str} {i : Int} (h0 : 0 ≤ i) (h1 : i < (z.cps.toList.length : Int)) : ∃ c, atI z.cps.toList i = some c ∧ c ∈ z.cps.toList := by
  obtain ⟨j, rfl⟩ : ∃ j : Nat, i = j := ⟨i.toNat, by omega⟩
  have hj : j < z.cps.toList.length := by omega
  exact ⟨z.cps.toList[j], atI_nat (List.getElem?_eq_getElem hj), List.getElem_mem hj⟩
theorem let_at {z : Str} {c : Nat} (h : IsLet z) (hc : c ∈ z.cps.toList) : IsLet ⟨#[c]⟩ := by
  have := List.all_eq_true.mp h c hc
  show ([c].all okc) = true
  simp [this]
theorem let_app {a b : Str} (ha : IsLet a) (hb : IsLet b) : IsLet (a ++ b) := by
  have e : (a ++ b).cps.toList = a.cps.toList ++ b.cps.toList := TL.tl_append a b
  show (a ++ b).cps.toList.all okc = true
  rw [e, List.all_append, Bool.and_eq_true]
  exact ⟨ha, hb⟩
theorem len_app (a b : Str) : (a ++ b).length = a.length + b.length := by
  have e : (a ++ b).cps.toList = a.cps.toList ++ b.cps.toList := TL.tl_append a b
  have e2 := congrArg List.length e
  rw [List.length_append] at e2
  simpa [Str.length] using e2
theorem at_map {α : Type} (f : α → V) {xs : List α} {i : Int} (h0 : 0 ≤ i) (h1 : i < xs.length) : ∃ x, atI (xs.map f) i = some (f x) ∧ x ∈ xs := by
  obtain ⟨j, rfl⟩ : ∃ j : Nat, i = j := ⟨i.toNat, by omega⟩
  have hj : j < xs.length := by omega
  refine ⟨xs[j], ?_, List.getElem_mem hj⟩
  refine atI_nat ?_
  rw [List.getElem?_map, List.getElem?_eq_getElem hj]
  rfl
theorem ixs_let {z : Str} {j : Int} {H : Hp} {Q : VK} (hz : IsLet z) (hl : z.length ≤ sizeLine) (h0 : 0 ≤ j) (h1 : j < (z.cps.toList.length : Int)) (h : ∀ c, okc c = true → Q (.str ⟨#[c]⟩) H) : rIxS (.str z) (.int j) H Q := by
  obtain ⟨c, hc, hm⟩ := str_at h0 h1
  exact ⟨z, j, c, rfl, rfl, hl, hc, h c (List.all_eq_true.mp hz c hm)⟩
theorem let_one {c : Nat} (h : okc c = true) : IsLet ⟨#[c]⟩ := by
  show ([c].all okc) = true
  simp [h]
/-! ### houses: pairs of a number and a text, each at its address -/
abbrev PL := List (Addr × Int × Str)
def refs (L : PL) : List V := L.map fun q => V.ref q.1
def PairsAt (K : PySem.W.Frag) (H : Hp) (L : PL) : Prop := ∀ q ∈ L, SqT K H q.1 [.int q.2.1, .str q.2.2]
def HsAt (K : PySem.W.Frag) (H : Hp) (a : Addr) (L : PL) : Prop := SqL K H a (refs L) ∧ PairsAt K H L
theorem PairsAt.same {K : PySem.W.Frag} {H H' : Hp} {L : PL} (e : Same H H') (h : PairsAt K H L) : PairsAt K H' L := fun q hq => same_tup e (h q hq)
theorem HsAt.same {K : PySem.W.Frag} {H H' : Hp} {a : Addr} {L : PL} (e : Same H H') (h : HsAt K H a L) : HsAt K H' a L := ⟨e.seq h.1, h.2.same e⟩
/-- numbers ascending from 0 to 99, texts of at most m letters -/
structure IsHs (m : Nat) (h : List (Int × Str)) : Prop where
  asc : (h.map (·.1)).Pairwise (· < ·)
  num : ∀ q ∈ h, 0 ≤ q.1 ∧ q.1 ≤ 99
  txt : ∀ q ∈ h, IsLet q.2 ∧ q.2.length ≤ m
end SH
set_option Elab.async false
set_option linter.all false
set_option maxRecDepth 100000
set_option maxHeartbeats 4000000
/-! except clauses, any number, with and without a name -/
namespace SH
open PySem PySem.Spec PyProof.Rows L2
abbrev Suite := Addr → Value → Option Addr → TS
/-- behind a suite whose name is forgotten -/
def gone (i : Nat) (D : Ends) : Ends :=
  ⟨fun τ G => D.nx (τ.set i none) G, D.rt, fun τ G => D.bk (τ.set i none) G, fun τ G => D.ct (τ.set i none) G⟩
/-- how a suite is entered: with its name in slot i, or without one -/
def enter (o : Option Nat) (ts : Suite) (a : Addr) (c : Value) (d : Option Addr) (D : Ends) (τ : L2.St) (G : Hp) : Prop :=
  match o with
  | none => ts a c d D τ G
  | some i => ts a c d (gone i D) (τ.set i (some (.ref a))) G
/-- the clauses' wishes: the first that matches -/
def wHds (K : PySem.W.Frag) (Wo : WX) (D : Ends) : List (Value × Option Nat × Suite) → WX
  | [] => Wo
  | q :: r => fun c d τ G => ∃ b, PySem.W.exmOne K c q.1 = some b ∧ (b = true → ∀ a, G a = none → enter q.2.1 q.2.2 a c d D τ G) ∧ (b = false → wHds K Wo D r c d τ G)
/-- a suite's text does what ts says -/
def SuiteOk (X : Cx) (sts : List Stmt) (ts : Suite) : Prop :=
  ∀ (a : Addr) (o : Obj) (c : Value) (d : Option Addr) (l : List (Addr × Obj)), Zc c d o → (∃ f, o.data = .fields f) → PSs (X.suite a ((a, o) :: l)) sts (ts a c d)
inductive HdsN (X : Cx) : List ExceptHandler → List (Value × Option Nat × Suite) → Prop
  | nil : HdsN X [] []
  | cons {x : Str} {c : Value} {ts : Suite} {u : Stmt} {us : List Stmt} {p p' : Pos} {hs : List ExceptHandler} {l : List (Value × Option Nat × Suite)} :
      Names X x c → SuiteOk X (u :: us) ts → HdsN X hs l → HdsN X (.ExceptHandler (some (.Name x p)) none (u :: us) p' :: hs) ((c, none, ts) :: l)
  | named {x n : Str} {i : Nat} {c : Value} {ts : Suite} {u : Stmt} {us : List Stmt} {p p' : Pos} {hs : List ExceptHandler} {l : List (Value × Option Nat × Suite)} :
      Names X x c → X.N.Nodup → X.N[i]? = some n → X.env.kindOf n = some .local → SuiteOk X (u :: us) ts → HdsN X hs l → HdsN X (.ExceptHandler (some (.Name x p)) (some n) (u :: us) p' :: hs) ((c, some i, ts) :: l)
/-- an exception that has come down to this frame: at a, of the class c, with its dict d, over the ground B -/
structure Down (X : Cx) (pins : List (Addr × Obj)) (B : Heap) (a : Addr) (c : Value) (d : Option Addr) (τ : L2.St) (G : Hp) (s : Shared) : Prop where
  st : X.stack = X.env :: X.outer
  fr : X.env.frame = some X.env.locals
  fl : HandSPX.FlyingZ B (X.env :: X.outer) a (Zc c d) s.heap
  on : ∀ h, B.StaysIn h → s.heap.UpToSlots h → Inv X pins τ G { s with heap := h }
  ok : Inv X pins τ G s
  no : G a = none
  out : ∀ (h : Heap) (W : WX), HandSPX.HeldZ B (X.env :: X.outer) a (Zc c d) X.env.locals h → s.heap.UpToSlots h → W c d τ G → XE X W (.ref a) { s with heap := h }
section
variable {X : Cx} {pins : List (Addr × Obj)} {B : Heap} {a : Addr} {c : Value} {d : Option Addr} {τ : L2.St} {G : Hp} {s : Shared}
theorem Down.inner (Y : Down X pins B a c d τ G s) : ∃ o, s.heap.get? a = some o ∧ Zc c d o ∧ (∃ f, o.data = .fields f) ∧ Inv (X.suite a ((a, o) :: (X.pn ++ pins))) [] τ G s := by
  obtain ⟨o, f, ga, za, da⟩ := Y.fl.there
  have away : a ∉ frs (X.env :: X.outer) := by
    intro m
    obtain ⟨-, o', g', nf⟩ := Y.fl.2.2.1.mem m
    cases ga.symm.trans g'
    exact nf _ da
  refine ⟨o, ga, za, ⟨f, da⟩, Y.ok.suite ga da Y.no ?_ ?_⟩
  · intro z
    refine away (List.mem_filterMap.mpr ⟨X.env, List.mem_cons_self, ?_⟩)
    rw [Y.fr, z]
  · intro m
    obtain ⟨e, me, q⟩ := List.mem_filterMap.mp m
    exact away (List.mem_filterMap.mpr ⟨e, List.mem_cons_of_mem _ me, q⟩)
/-- the clause's name is asked, and whether the exception is of it -/
theorem Down.asked (Y : Down X pins B a c d τ G s) {x : Str} {p : Pos} {cl : Value} {b : Bool} (nm : Names X x cl) (hb : PySem.W.exmOne X.K c cl = some b) {Q : Bool → Shared → Prop} {E : Value → Shared → Prop} (q : Q b s) :
    wpAny (model X.prog X.w) (X.A.mark (some (.ref a))) (eval (.Name x p) X.env) (fun u s1 => wpAny (model X.prog X.w) (X.A.mark (some (.ref a))) (excMatches (.ref a) u) Q E s1) E s := by
  obtain ⟨o, ga, za, -, S⟩ := Y.inner
  have ty : PySem.W.Looks (model X.prog X.w) s.heap (typeOf (.ref a)) c := fun _ _ _ _ k z => wpAny_typeOf_ref (k _ _ ga) (by rw [za.1]; exact z)
  have mt := (PySem.W.exm_one (M := model X.prog X.w) Y.ok.kIn ty hb).here (A := X.A.mark (some (.ref a))) (Q := Q) (E := E) q
  obtain ⟨g, nd, hm | ⟨hm, hv, nn⟩⟩ := nm
  · exact ld_glob (X := X.suite a ((a, o) :: (X.pn ++ pins))) S g hm mt nd
  · exact ld_blt (X := X.suite a ((a, o) :: (X.pn ++ pins))) S g hm hv mt nn nd
/-- once more at the suite's beginning -/
theorem Down.again (Y : Down X pins B a c d τ G s) {h : Heap} (f : HandSPX.FlyingZ B (X.env :: X.outer) a (Zc c d) h) (u : s.heap.UpToSlots h) : Down X pins B a c d τ G { s with heap := h } :=
  ⟨Y.st, Y.fr, f, fun g k v => Y.on g k (u.trans v), Y.on h f.1 u, Y.no, fun g W k v w => Y.out g W k (u.trans v) w⟩
theorem Down.handle (Y : Down X pins B a c d τ G s) {D : Ends} {Wo : WX} (tk : Takes X Wo) {hs : List ExceptHandler} {l : List (Value × Option Nat × Suite)} (hk : HdsN X hs l) :
    wHds X.K Wo D l c d τ G → wpAny (model X.prog X.w) X.A (handleBy (.ref a) X.env hs) (SP X pins D) X.xe s := by
  induction hk with
  | nil =>
    intro wish
    refine wpAny_handleBy_nil ?_
    obtain ⟨-, -, -, o, f, T, -, -, go, -, dat, f1, -⟩ := id Y.fl
    unfold PySem.passOn
    refine wpAny_bind (wpAny_field go dat f1 ?_)
    rw [if_neg (by simp : ¬ ((Value.ref T == Value.none) = true))]
    have up : wpAny (model X.prog X.w) X.A (setFlight (.ref a) X.env.frame) (fun _ s4 => wpAny (model X.prog X.w) X.A (throw (.ref a) : Sem Flow) (SP X pins D) X.xe s4) X.xe s := by
      rw [Y.fr]
      exact HandSPX.setFlight_upZ Y.fl fun h held u => wpAny_throw (tk _ _ (Y.out h _ held u wish))
    first
      | exact wpAny_bind (wpAny_pure (wpAny_bind up))
      | exact wpAny_bind up
  | @cons x cl ts u us p p' hs l nm so r ih =>
    rintro ⟨b, hb, yes, no⟩
    refine wpAny_handleBy_cons (codeAny_handlers_test (Y.asked nm hb ?_)) (fun z => nomatch z)
    match b, yes, no with
    | false, _, no => exact ih (no rfl)
    | true, yes, _ =>
      refine codeAny_handlers_suite (HandSPX.lands_againZ Y.fl fun h f v => ?_)
      obtain ⟨o, -, zo, fo, S⟩ := (Y.again f v).inner
      refine wpAny_mono ((so a o c d (X.pn ++ pins) zo fo).run [] _ _ G _ S (yes rfl a Y.no)) ?_ (fun _ _ z => z.elim)
      intro g s6 hsp
      match g, hsp with
      | .next, ⟨τ6, G6, S6, z⟩ => exact ⟨τ6, G6, S6.unsuite Y.ok.ok, z⟩
      | .brk, ⟨τ6, G6, S6, z⟩ => exact ⟨τ6, G6, S6.unsuite Y.ok.ok, z⟩
      | .cont, ⟨τ6, G6, S6, z⟩ => exact ⟨τ6, G6, S6.unsuite Y.ok.ok, z⟩
      | .ret u, ⟨v6, τ6, G6, S6, r6, z⟩ => exact ⟨v6, τ6, G6, S6.unsuite Y.ok.ok, r6, z⟩
  | @named x n i cl ts u us p p' hs l nm hN hi ho so r ih =>
    rintro ⟨b, hb, yes, no⟩
    refine wpAny_handleBy_cons (codeAny_handlers_test (Y.asked nm hb ?_)) (fun z => nomatch z)
    match b, yes, no with
    | false, _, no => exact ih (no rfl)
    | true, yes, _ =>
      refine codeAny_handlers_suite_as (HandSPX.lands_againZ Y.fl fun h f v => ?_)
      obtain ⟨o, -, zo, fo, S⟩ := (Y.again f v).inner
      refine store_ok (X := X.suite a ((a, o) :: (X.pn ++ pins))) (v := .ref a) S hN hi (.inl ho) rfl (fun s5 S5 => ?_) (.inr ho)
      refine wpAny_mono ((so a o c d (X.pn ++ pins) zo fo).run [] s5 _ G _ S5 (yes rfl a Y.no)) ?_ (fun _ _ z => z.elim)
      intro g s6 hsp
      match g, hsp with
      | .next, ⟨τ6, G6, S6, z⟩ => exact gone_ok (S6.unsuite Y.ok.ok) hN hi ho fun s7 J => ⟨τ6.set i none, G6, J, z⟩
      | .brk, ⟨τ6, G6, S6, z⟩ => exact gone_ok (S6.unsuite Y.ok.ok) hN hi ho fun s7 J => ⟨τ6.set i none, G6, J, z⟩
      | .cont, ⟨τ6, G6, S6, z⟩ => exact gone_ok (S6.unsuite Y.ok.ok) hN hi ho fun s7 J => ⟨τ6.set i none, G6, J, z⟩
      | .ret u, ⟨v6, τ6, G6, S6, r6, z⟩ => exact gone_ok (S6.unsuite Y.ok.ok) hN hi ho fun s7 J => ⟨v6, τ6.set i none, G6, J, r6, z⟩
end
/-- try: body, any clauses -/
theorem ps_try_hds {X : Cx} {body : List Stmt} {h₀ : ExceptHandler} {hs : List ExceptHandler} {l : List (Value × Option Nat × Suite)} {pos : Pos} {tb : WX → TS} {Wo : WX}
    (st : X.stack = X.env :: X.outer) (fr : X.env.frame = some X.env.locals) (tk : Takes X Wo)
    (bo : ∀ (W : WX) (pn : List (Addr × Obj)) (xe : Value → Shared → Prop), Takes (X.tr pn xe) W → PassesOwn (model X.prog X.w) X.A X.env xe → PSs (X.tr pn xe) body (tb W))
    (hk : HdsN X (h₀ :: hs) l) : PS X (.Try body (h₀ :: hs) [] [] pos) (fun D τ G => tb (wHds X.K Wo D l) D τ G) := by
  constructor
  intro pins s τ G D I q
  have ok := I.ok
  refine wpAny_Try_except (wpAny_mono ((bo (wHds X.K Wo D l) (X.pn ++ pins) _ ?_ PassesOwn.looking).run [] s τ G D (I.toTry _) q) (fun f s1 r => ?_) (fun e s1 r => r))
  · rintro u s2 ⟨a, B, sI, pins', τ2, G2, c, d, rfl, J', nb, up, sky, na, os, ag, wish⟩
    have J := J'.ofTry ok
    have sky2 : Sky B (X.env :: X.outer) a (Zc c d) X.env.locals s2.heap := st ▸ sky
    refine Sky.land Zc.steady (by rw [ok.frames, st]) fr sky2 (fun h f v => ?_)
    refine Down.handle (B := B) (a := a) (c := c) (d := d) (τ := τ2) (G := G2) (s := { s2 with heap := h }) ⟨st, fr, f, fun g k z => J.landed nb k ((up.trans v).trans z) os ag, J.landed nb f.1 (up.trans v) os ag, na, fun g W k z w => ?_⟩ tk hk wish
    exact ⟨a, B, sI, pins, τ2, G2, c, d, rfl, J, nb, (up.trans v).trans z, .inr (.inr (by rw [st]; exact k)), na, os, ag, w⟩
  · match f, r with
    | .next, ⟨τ2, G2, J, z⟩ => exact wpAny_execs_nil ⟨τ2, G2, J.ofTry ok, z⟩
    | .brk, ⟨τ2, G2, J, z⟩ => exact ⟨τ2, G2, J.ofTry ok, z⟩
    | .cont, ⟨τ2, G2, J, z⟩ => exact ⟨τ2, G2, J.ofTry ok, z⟩
    | .ret u, ⟨v, τ2, G2, J, r2, z⟩ => exact ⟨v, τ2, G2, J.ofTry ok, r2, z⟩
end SH
set_option Elab.async false
set_option linter.all false
set_option maxRecDepth 100000
set_option maxHeartbeats 4000000
/-! errors with a number: made by the base's __init__, raised, caught, asked for their number -/
namespace SH
open PySem PySem.Spec PyProof.Rows L2
/-- numbers that an error is made with here -/
def Small (n : Int) : Prop := n.natAbs < 2 ^ 200
theorem small_bits {n : Int} (h : Small n) : decide ((1000 : Int) < ((Builtin.Int.intBits n : Nat) : Int)) = false := by
  have a := PySem.Flt.log2_lt_of (by decide : 0 < 200) h
  have b : Builtin.Int.intBits n ≤ n.natAbs.log2 + 1 := by
    unfold Builtin.Int.intBits
    split <;> omega
  refine decide_eq_false ?_
  omega
theorem small_of {n : Int} (h0 : -1000000 ≤ n) (h1 : n ≤ 1000000) : Small n := Nat.lt_of_le_of_lt (by omega : n.natAbs ≤ 1000000) (by decide)
/-- __init__(self, at) at a new exception: its dict gets the number -/
def spInitAt (K : PySem.W.Frag) : Sp := fun vs H Q _ => ∃ (a C : Addr) (n : Int), vs = [.ref a, .int n] ∧ OexC K C ∧ PySem.W.findIn K (.ref C) "at" = some none ∧ Small n ∧ H a = some (exo a C none) ∧
  ∀ dx : Addr, H dx = none → dx ≠ a → Q .non (upd (upd H dx (exd dx [(("at" : Str), .int n)])) a (exo a C (some dx)))
/-- what the top says of an error's class -/
structure ErrC (K : PySem.W.Frag) (mg : Str → Option Value) (x : Str) (C fI : Addr) : Prop where
  g : mg x = some (.ref C)
  o : OexC K C
  i : PySem.W.findIn K (.ref C) "__init__" = some (some (.ref fI))
  no : PySem.W.findIn K (.ref C) "at" = some none
  f : XfC K C
/-- .. and of the __init__ -/
structure InitOk (P : Program) (w : World) (K : PySem.W.Frag) (mg : Str → Option Value) (base : Heap) (fI : Addr) : Prop where
  ex : ∃ fd : FuncData, FnOk P w K mg base CX0 1 fI fd ["self", "at"] (spInitAt K) ∧ Binds K fd ["self", "at"] [] ∧ PySem.W.typeIn K (.ref fI) = some (.type "function")
/-- .. as it stands in the text -/
structure DdI (K : PySem.W.Frag) (q : Str) (st : Stmt) (fI : Addr) : Prop where
  ex : ∃ fd : FuncData, Fun K "__init__" q st fI fd ∧ Binds K fd ["self", "at"] [] ∧ PySem.W.typeIn K (.ref fI) = some (.type "function")
section
variable {X : Cx} {k : Nat} {x : Str} {C fI : Addr} {e : Expr} {ta : TA} {p pos : Pos}
/-- x(e): a new error of the class at C -/
theorem pmk_at (T : ErrC X.K X.mg x C fI) (I : InitOk X.prog X.w X.K X.mg X.base fI) (hr : Room k X.A) (hk : 2 ≤ k) (hg : Gl X x) (ha : PA X (e :: []) ta)
    (hd : (x == ("__debug__" : Str)) = false := by decide) (he : starEach (e :: []) X.env = (false, eval e X.env) :: starEach [] X.env := by rfl) (hp : (backTo pos (starEach [] X.env)).any (·.1) = false := by rfl) :
    PMk X (.Call (.Name x p) (e :: []) [] pos) (tMkO C (spInitAt X.K) [] ta) := by
  obtain ⟨fd, F, b, t⟩ := I.ex
  exact pmk_oex T.o T.i t F (hr.mono hk) b .nil pass0 hg T.g ha hd he hp
end
/-- the reading of a made error, behind its argument -/
theorem mk_at {K : PySem.W.Frag} {C : Addr} {H1 : Hp} {n : Int} {Q : XK} (To : OexC K C) (Tn : PySem.W.findIn K (.ref C) "at" = some none) (hs : Small n)
    (go : ∀ (d : Addr) (H2 : Hp), Same H1 H2 → H1 d = none → H2 d = some (.xd [(("at" : Str), .int n)]) → Q (.ref C) (some d) H2) :
    [V.int n].length ≤ 1000 ∧ ∀ a, H1 a = none → spInitAt K (.ref a :: ([V.int n] ++ [])) (upd H1 a (exo a C none))
      (fun v H2 => v = .non ∧ ∃ (d : Addr) (fs : List (Str × V)), H2 a = some (exo a C (some d)) ∧ H2 d = some (exd d fs) ∧ H1 d = none ∧ Q (.ref C) (some d) (upd (del H2 a) d (.xd fs))) (fun _ _ _ => False) := by
  refine ⟨(by show 1 ≤ 1000; decide), fun a na => ⟨a, C, n, rfl, To, Tn, hs, upd_same, fun dx ndx ne => ⟨rfl, dx, [(("at" : Str), V.int n)], upd_same, ?_, ?_, ?_⟩⟩⟩
  · rw [upd_ne ne, upd_same]
  · rw [upd_ne ne] at ndx
    exact ndx
  · rw [upd_ne ne] at ndx
    refine go dx _ (fun b o hb => ?_) ndx upd_same
    have b1 : b ≠ dx := ne_of_none hb ndx
    have b2 : b ≠ a := ne_of_none hb na
    rw [upd_ne b1, del_ne b2, upd_ne b2, upd_ne b1, upd_ne b2]
    exact hb
theorem wHds_skip {K : PySem.W.Frag} {Wo : WX} {D : Ends} {q : Value × Option Nat × Suite} {r : List (Value × Option Nat × Suite)} {c : Value} {d : Option Addr} {τ : L2.St} {G : Hp} (h : PySem.W.exmOne K c q.1 = some false)
    (go : wHds K Wo D r c d τ G) : wHds K Wo D (q :: r) c d τ G := ⟨false, h, (fun z => Bool.noConfusion z), fun _ => go⟩
theorem wHds_take {K : PySem.W.Frag} {Wo : WX} {D : Ends} {q : Value × Option Nat × Suite} {r : List (Value × Option Nat × Suite)} {c : Value} {d : Option Addr} {τ : L2.St} {G : Hp} (h : PySem.W.exmOne K c q.1 = some true)
    (go : ∀ a, G a = none → enter q.2.1 q.2.2 a c d D τ G) : wHds K Wo D (q :: r) c d τ G := ⟨true, h, (fun _ => go), (fun z => Bool.noConfusion z)⟩
theorem exm_of {K : PySem.W.Frag} {C D : Addr} {b : Bool} (h1 : PySem.W.subIn K (.ref D) (.type "BaseException") = some true) (h2 : PySem.W.isClsIn K D = true) (h3 : PySem.W.typeIn K (.ref D) = some (.type "type"))
    (h4 : PySem.W.subIn K (.ref C) (.ref D) = some b) : PySem.W.exmOne K (.ref C) (.ref D) = some b := by
  have c1 : (PySem.W.subIn K (.ref D) (.type "BaseException") == some true) = true := by rw [h1]; rfl
  have c2 : ((PySem.W.clsIn K D).isSome && PySem.W.typeIn K (.ref D) == some (.type "type")) = true := by
    have h2' : (PySem.W.clsIn K D).isSome = true := h2
    rw [h3, h2']; rfl
  unfold PySem.W.exmOne
  rw [if_pos c1]
  show (if ((PySem.W.clsIn K D).isSome && PySem.W.typeIn K (.ref D) == some (.type "type")) = true then PySem.W.subIn K (.ref C) (.ref D) else none) = some b
  rw [if_pos c2]
  exact h4
end SH
set_option Elab.async false
set_option linter.all false
set_option maxRecDepth 100000
set_option maxHeartbeats 4000000
namespace SH
open PySem PySem.Spec PyProof.Rows L2
/-! comprehensions whose steps only add to the heap: RL tells what the list made so far is -/
/-- all but what stands at D is as it was -/
def But (D : Addr) (H H' : Hp) : Prop := ∀ b o, b ≠ D → H b = some o → H' b = some o
theorem but_upd {D : Addr} {H : Hp} {o : HO} : But D H (upd H D o) := fun b x n e => by
  rw [upd_ne n]
  exact e
theorem but_tup {K : PySem.W.Frag} {D t : Addr} {H H' : Hp} {l xs : List V} (hD : H D = some (.lst l)) (e : But D H H') (h : SqT K H t xs) : SqT K H' t xs := by
  rcases h with h | h
  · rcases h with h | h
    · refine Or.inl (Or.inl (e _ _ (fun z => ?_) h))
      rw [z, hD] at h
      cases h
    · obtain ⟨o, h⟩ := h
      refine Or.inl (Or.inr ⟨o, e _ _ (fun z => ?_) h⟩)
      rw [z, hD] at h
      cases h
  · exact Or.inr h
theorem but_pairs {K : PySem.W.Frag} {D : Addr} {H H' : Hp} {l : List V} {L : PL} (hD : H D = some (.lst l)) (e : But D H H') (h : PairsAt K H L) : PairsAt K H' L := fun q hq => but_tup hD e (h q hq)
section
variable {J : It} {n : Nat} {G : Hp → Prop} {Y : Nat → Hp → V → Hp → Prop}
theorem lc_w (w : Walk J n G Y) {g : TG} {tt : TT} {te : TE} {vs : List Nat} {τ : L2.St} {H1 : Hp} {D : Addr} {Qd : Hp → Prop} (hD : H1 D = none) (hn : n ≤ 100000) (hG : ∀ H, Same H1 H → G H)
    (RL : Nat → List V → Hp → Prop) (h0 : ∀ H, Same H1 H → RL 0 [] H) (mono : ∀ i acc H H' l, H D = some (.lst l) → But D H H' → RL i acc H → RL i acc H')
    (hY : ∀ i H x H', Y i H x H' → Same H H')
    (hs : ∀ (i : Nat) (x : V) (acc : List V) (H H' : Hp) (Qn : VK) (Qf : Hp → Prop), i < n → Same H1 H' → Y i H x H' → RL i acc H' → H' D = some (.lst acc) → (∀ y H4, Same H' H4 → RL (i + 1) (acc ++ [y]) H4 → Qn y H4) → (∀ H3, Same H' H3 → RL (i + 1) acc H3 → Qf H3) →
      g x (wipe τ vs) H' fun τ2 H2 => wipe τ2 vs = wipe τ vs ∧ tt τ2 H2 fun b H3 => if b = true then te τ2 H3 Qn else Qf H3)
    (hd : ∀ acc H, Same H1 H → H D = some (.lst acc) → acc.length ≤ n → RL n acc H → Qd H) :
    ∃ W : Nat → Nat → Hp → Prop, (∃ m, W 0 m (upd H1 D (.lst []))) ∧ ∀ i m H, W i m H →
      (J.stop i H ∧ Qd H) ∨ (J.go i H ∧ ∃ Nx : Hp → Prop, (∀ H', Nx H' → ∃ m', m' < m ∧ W (i + 1) m' H') ∧ ∀ x H', J.yld i H x H' → g x (wipe τ vs) H' fun τ2 H2 => wipe τ2 vs = wipe τ vs ∧ tt τ2 H2 fun b H3 =>
        if b = true then te τ2 H3 fun y H4 => ∃ acc, H4 D = some (.lst acc) ∧ acc.length < sizeLine ∧ Nx (upd H4 D (.lst (acc ++ [y]))) else Nx H3) := by
  refine lc_it w (fun i H => ∃ acc, Same H1 H ∧ H D = some (.lst acc) ∧ acc.length ≤ i ∧ RL i acc H) ⟨[], same_new hD, upd_same, Nat.le_refl _, h0 _ (same_new hD)⟩ (fun i H _ p => ?_) (fun i x H H' hi p y => ?_) (fun H p => ?_)
  · obtain ⟨acc, e, _⟩ := p
    exact hG H e
  · obtain ⟨acc, e, at_, hl, r⟩ := p
    have e1 := hY i H x H' y
    have at1 := e1 _ _ at_
    refine hs i x acc H H' _ _ hi (e.trans e1) y (mono i acc H H' acc at_ (fun b o _ h => e1 b o h) r) at1 (fun z H4 e2 r2 => ?_) (fun H3 e2 r2 => ?_)
    · have at2 := e2 _ _ at1
      refine ⟨acc, at2, Nat.lt_of_le_of_lt (Nat.le_trans hl (Nat.le_of_lt (Nat.lt_of_lt_of_le hi hn))) (by decide), acc ++ [z], same_mut ((e.trans e1).trans e2) hD, upd_same, by simp; omega, mono _ _ H4 _ acc at2 but_upd r2⟩
    · exact ⟨acc, (e.trans e1).trans e2, e2 _ _ at1, by omega, r2⟩
  · obtain ⟨acc, e, at_, hl, r⟩ := p
    exact hd acc H e at_ hl r
end
/-! ### numbers and texts -/
theorem lt1 (c d : Nat) : decide (([c] : List Nat) < [d]) = decide (c < d) := by
  by_cases h : c < d
  · rw [decide_eq_true h]
    exact decide_eq_true (List.Lex.rel h)
  · rw [decide_eq_false h]
    refine decide_eq_false fun z => ?_
    cases z with
    | rel q => exact h q
    | cons q => cases q
/-- a text of the document: not too long, of letters -/
def isTxt (z : Str) : Bool := decide (z.length ≤ 40) && z.cps.toList.all okc
/-- a house of the document, behind a number -/
def chk (before : Int) : List (Int × Str) → Bool
  | [] => true
  | q :: r => decide (before < q.1) && decide (q.1 ≤ 99) && isTxt q.2 && chk q.1 r
def isH (h : List (Int × Str)) : Bool := decide (h.length ≤ 8) && chk (-1) h
theorem chk_of {m : Nat} (hm : m ≤ 40) : ∀ (h : List (Int × Str)) (b : Int), (∀ q ∈ h, b < q.1) → IsHs m h → chk b h = true
  | [], _, _, _ => rfl
  | q :: r, b, hb, a => by
    have t := a.txt q (List.mem_cons_self ..)
    have n := a.num q (List.mem_cons_self ..)
    have asc := a.asc
    rw [List.map_cons, List.pairwise_cons] at asc
    have ih := chk_of hm r q.1 (fun x hx => asc.1 x.1 (List.mem_map_of_mem hx)) ⟨asc.2, fun x hx => a.num x (List.mem_cons_of_mem _ hx), fun x hx => a.txt x (List.mem_cons_of_mem _ hx)⟩
    show (decide (b < q.1) && decide (q.1 ≤ 99) && isTxt q.2 && chk q.1 r) = true
    have e1 := hb q (List.mem_cons_self ..)
    have e2 : isTxt q.2 = true := by
      unfold isTxt
      rw [decide_eq_true (Nat.le_trans t.2 hm)]
      exact t.1
    rw [ih, e2, decide_eq_true e1, decide_eq_true n.2]
    rfl
end SH
set_option Elab.async false
set_option linter.all false
set_option maxRecDepth 100000
set_option maxHeartbeats 4000000
/-! sorted(xs), xs a list of pairs of a number and a text; pairs with one number have one text -/
namespace SH
open PySem PySem.Spec PyProof.Rows L2
def NT (h : Heap) (v : Value) (p : Int × Str) : Prop := ∃ (a : Addr) (o : Obj) (t u : Tok) (c : Nat), v = .ref a ∧ h.get? a = some o ∧ o.cls = .type "tuple" ∧ o.data = .seq #[.int p.1 t, .str p.2 u] c
theorem NT.on {h h' : Heap} {v : Value} {p : Int × Str} (x : NT h v p) (k : ∀ b o, h.get? b = some o → o.cls = .type "tuple" → h'.get? b = some o) : NT h' v p := by
  obtain ⟨a, o, t, u, c, rfl, g, q, r⟩ := x
  exact ⟨a, o, t, u, c, rfl, k a o g q, q, r⟩
theorem nt_firsts {h : Heap} {k : Value → Int × Str} : ∀ (vs : List Value), (∀ v ∈ vs, NT h v (k v)) → ∃ fs, PySem.W.KatTups h vs fs ∧ fs.length = vs.length ∧ ∀ f ∈ fs, ∃ n t, f = Value.int n t
  | [], _ => ⟨[], PySem.W.KatTups.nil, rfl, fun _ m => nomatch m⟩
  | v :: r, x => by
    obtain ⟨fs, k1, k2, k3⟩ := nt_firsts r (fun u m => x u (List.mem_cons_of_mem _ m))
    obtain ⟨a, o, t, u, c, rfl, g, q, d⟩ := x v (List.mem_cons_self ..)
    refine ⟨_, PySem.W.KatTups.cons g q d rfl k1, by simp [k2], fun f m => ?_⟩
    rcases List.mem_cons.mp m with e | m
    · exact ⟨_, _, e⟩
    · exact k3 f m
def ltN (k : Value → Int × Str) (v u : Value) : Bool := decide ((k v).1 < (k u).1)
theorem ltN_swo (k : Value → Int × Str) : SrtO.Swo (ltN k) :=
  ⟨fun x y h => decide_eq_false (by have := of_decide_eq_true h; omega), fun x y z h1 h2 => decide_eq_false (by have a := of_decide_eq_false h1; have b := of_decide_eq_false h2; omega)⟩
section
variable {prog : Program} {w : World} {A : Around} {s : Shared}
theorem nt_cmp {vs : List Value} {k : Value → Int × Str} (hp : ∀ v ∈ vs, NT s.heap v (k v)) (one : ∀ v ∈ vs, ∀ u ∈ vs, (k v).1 = (k u).1 → (k v).2 = (k u).2) :
    SrtO.Cmp prog w A s (tuples' true) (fun p => p.1 ∈ vs) (SrtO.lt2 (ltN k)) := by
  rintro ⟨x, kx⟩ ⟨y, ky⟩ mp mq
  have same := one _ mp _ mq
  show wpAny (model prog w) A (keyLt' (tuples' true) x y) (fun r s' => s' = s ∧ r = decide ((k x).1 < (k y).1)) (fun _ _ => False) s
  obtain ⟨a, o, t, u, c, e, g, cl, d⟩ := hp _ mp
  obtain ⟨a', o', t', u', c', e', g', cl', d'⟩ := hp _ mq
  have ex : x = .ref a := e
  have ey : y = .ref a' := e'
  subst ex ey
  refine PySem.W.kat_lt g d g' d' (PySem.W.kat_cons (SeqAt.EqAt.int_int _ t _ t' prog w _ _ (PySem.W.kat_go (fun e1 => ?_) (fun e1 => ?_))))
  · have en : (k (.ref a)).1 = (k (.ref a')).1 := by simpa using e1
    have ez := same en
    refine PySem.W.kat_yes (PySem.W.kat_cons (SeqAt.EqAt.str_str _ u _ u' prog w _ _ (PySem.W.kat_go (fun _ => ?_) (fun e2 => ?_))))
    · refine PySem.W.kat_yes (PySem.W.kat_nil ⟨rfl, ?_⟩)
      rw [en]
      simp
    · rw [ez] at e2
      simp at e2
  · exact PySem.W.kat_no (oneLt_int ⟨rfl, rfl⟩)
theorem nt_sortable {a : Addr} {vs : List Value} {k : Value → Int × Str} (h0 : 0 < vs.length) (hp : ∀ v ∈ vs, NT s.heap v (k v)) (one : ∀ v ∈ vs, ∀ u ∈ vs, (k v).1 = (k u).1 → (k v).2 = (k u).2)
    (ha : ∀ o, s.heap.get? a = some o → o.cls ≠ .type "tuple") : SrtO.SortableO prog w A s a vs (ltN k) := by
  intro h' keep
  have hp' : ∀ v ∈ vs, NT h' v (k v) := fun v m => (hp v m).on fun b o g c => keep b o (fun z => ha o (z ▸ g) c) g
  obtain ⟨fs, f1, f2, f3⟩ := nt_firsts vs hp'
  refine ⟨tuples' true, fun Q E q => PySem.W.kat_kind (T := .type "int") f1 (by omega) (fun f m => ?_) (by rfl) ?_, nt_cmp hp' one⟩
  · obtain ⟨n, t, rfl⟩ := f3 f m
    exact PySem.W.Looks.now
  · have e : (Value.type "int" != Value.type "tuple") = true := by first | decide +kernel | rfl
    rw [e]
    exact q
end
/-- sorted(xs): a new list of the same pairs, by their numbers -/
def rSortNT (K : PySem.W.Frag) : List V → Hp → VK → Prop := fun vs H Q => ∃ (a : Addr) (L : PL), vs = [.ref a] ∧ HsAt K H a L ∧ (∀ q ∈ L, ∀ r ∈ L, q.2.1 = r.2.1 → q.2.2 = r.2.2) ∧
  ∀ (L' : PL) (p : Addr), L'.Perm L → L'.Pairwise (fun q r => q.2.1 ≤ r.2.1) → H p = none → Q (.ref p) (upd H p (.lst (refs L')))
/-- what stands at the address in a list of pairs -/
def atAddr (L : PL) (v : Value) : Int × Str := match v with
  | .ref a => match L.find? (fun q => q.1 == a) with
    | some q => q.2
    | none => (0, "")
  | _ => (0, "")
def addrOf : Value → Addr
  | .ref a => a
  | _ => 0
theorem atAddr_of {L : PL} (un : ∀ q ∈ L, ∀ r ∈ L, q.1 = r.1 → q.2 = r.2) {q : Addr × Int × Str} (hq : q ∈ L) : atAddr L (.ref q.1) = q.2 := by
  show (match L.find? (fun r => r.1 == q.1) with | some r => r.2 | none => (0, "")) = q.2
  cases e : L.find? (fun r => r.1 == q.1) with
  | some r =>
    have h1 := List.mem_of_find?_eq_some e
    have h2 := List.find?_some e
    exact un r h1 q hq (by simpa using h2)
  | none =>
    have := List.find?_eq_none.mp e q hq
    simp at this
section
variable {X : Cx}
theorem cr_sortNT : CallR X (.builtin "sorted") (rSortNT X.K) := by
  intro pins s τ H vs us Q I r h
  obtain ⟨a, L, rfl, hA, one, q⟩ := h
  obtain ⟨its, rv, hl, hz⟩ := I.list hA.1
  obtain ⟨u, rfl, ru⟩ := vals1 r
  obtain rfl : u = Value.ref a := ru
  obtain ⟨e1, e2⟩ := refs_back rv (fun x m => by
    obtain ⟨q, _, e⟩ := List.mem_map.mp m
    exact ⟨q.1, e.symm⟩)
  -- one address, one pair
  have un : ∀ q ∈ L, ∀ r ∈ L, q.1 = r.1 → q.2 = r.2 := fun q hq r hr e => by
    have z := I.tuple_inj (hA.2 q hq) (by rw [e]; exact hA.2 r hr)
    obtain ⟨x, n, t⟩ := q
    obtain ⟨y, m, t'⟩ := r
    simp at z
    show (n, t) = (m, t')
    rw [z.1, z.2]
  have mem : ∀ v ∈ its, ∃ q ∈ L, v = Value.ref q.1 := fun v hv => by
    obtain ⟨t, rfl⟩ := e2 v hv
    have m : V.ref t ∈ refs L := by
      rw [e1]
      exact List.mem_map.mpr ⟨_, hv, rfl⟩
    obtain ⟨q, hq, e⟩ := List.mem_map.mp m
    cases e
    exact ⟨q, hq, rfl⟩
  have nt : ∀ v ∈ its, NT s.heap v (atAddr L v) := fun v hv => by
    obtain ⟨q, hq, rfl⟩ := mem v hv
    rw [atAddr_of un hq]
    obtain ⟨i2, r2, ⟨o, g, c, n, d⟩, _⟩ := I.tuple (hA.2 q hq)
    obtain ⟨u1, u2, rfl, ⟨t1, rfl⟩, ⟨t2, rfl⟩⟩ := vals2 r2
    exact ⟨q.1, o, t1, t2, n, rfl, g, c, d⟩
  have one' : ∀ v ∈ its, ∀ u ∈ its, (atAddr L v).1 = (atAddr L u).1 → (atAddr L v).2 = (atAddr L u).2 := fun v hv u hu => by
    obtain ⟨q, hq, rfl⟩ := mem v hv
    obtain ⟨r, hr, rfl⟩ := mem u hu
    rw [atAddr_of un hq, atAddr_of un hr]
    exact one q hq r hr
  refine SrtO.sorted_ord (ltN_swo (atAddr L)) hl.isList (by rw [← rv.length]; exact hz) (fun h2 h₁ b hb kk => ?_) (fun out hs hb => ?_)
  · refine nt_sortable (s := { s with heap := h₁ }) (by omega) (fun v m => (nt v m).on fun c o g _ => (kk c o g).2) one' (fun o g c => ?_)
    have g' : some o = some (seqObj "list" its.toArray 0) := g.symm.trans hb
    cases g'
    exact absurd (Value.type.inj c) (by decide)
  · have mo : ∀ v ∈ out, ∃ q ∈ L, v = Value.ref q.1 := fun v hv => mem v (hb.perm.mem_iff.mp hv)
    -- the pairs in their new order
    let f : Value → Addr × Int × Str := fun v => (addrOf v, atAddr L v)
    have fq : ∀ q ∈ L, f (.ref q.1) = q := fun q hq => by
      show (q.1, atAddr L (.ref q.1)) = q
      rw [atAddr_of un hq]
    have hL : its.map f = L := by
      have z : (refs L).map (fun v => match v with | .ref t => f (.ref t) | _ => (0, 0, "")) = L := by
        unfold refs
        rw [List.map_map]
        calc L.map _ = L.map id := List.map_congr_left fun q hq => fq q hq
          _ = L := List.map_id L
      rw [e1, List.map_map] at z
      refine Eq.trans (List.map_congr_left fun v hv => ?_) z
      obtain ⟨q, _, rfl⟩ := mem v hv
      rfl
    have hp : (out.map f).Perm L := by
      rw [← hL]
      exact hb.perm.map f
    have hr : refs (out.map f) = out.map backV := by
      unfold refs
      rw [List.map_map]
      refine List.map_congr_left fun v hv => ?_
      obtain ⟨q, _, rfl⟩ := mo v hv
      rfl
    have hsrt : (out.map f).Pairwise (fun q r => q.2.1 ≤ r.2.1) := by
      rw [List.pairwise_map]
      refine List.Pairwise.imp (fun {x y} h => ?_) hs
      have := of_decide_eq_false h
      show (atAddr L x).1 ≤ (atAddr L y).1
      omega
    obtain ⟨n, hn⟩ := sortedAll_at s.heap its out.toArray
    have hd : s.heap.objs.size ≤ s.heap.objs.size + 1 := Nat.le_succ _
    refine ⟨.ref (s.heap.objs.size + 1), upd H (s.heap.objs.size + 1) (.lst (refs (out.map f))), I.laid (t' := s.toks) (fun b o g => sortedAll_old g) hd ⟨?_, out, n, ?_, hn⟩, rfl, q _ _ hp hsrt (I.hok.fresh hd)⟩
    · have e3 : (refs (out.map f)).length = (refs L).length := by
        unfold refs
        rw [List.length_map, List.length_map (as := L), hp.length_eq]
      rw [e3]
      exact hz
    · rw [hr]
      exact vals_back fun v hv => by
        obtain ⟨q, _, rfl⟩ := mo v hv
        exact ⟨q.1, rfl⟩
end
end SH
set_option Elab.async false
set_option linter.all false
set_option maxRecDepth 100000
set_option maxHeartbeats 4000000
/-! houses as data, compared -/
namespace SH
open PySem PySem.Spec PyProof.Rows L2
def dPair (q : Int × Str) : PyData := .tuple [.int q.1, .str q.2]
def dH (h : List (Int × Str)) : PyData := .list (h.map dPair)
theorem dp_refs {K : PySem.W.Frag} {H : Hp} : ∀ (L : PL), PairsAt K H L → DpAll K H (refs L) (L.map fun q => dPair q.2)
  | [], _ => .nil
  | q :: r, h => .cons (.tup (h q (List.mem_cons_self ..)) (.cons (.int _) (.cons (.str _) .nil))) (dp_refs r fun x m => h x (List.mem_cons_of_mem _ m))
theorem dp_house {K : PySem.W.Frag} {H : Hp} {a : Addr} {L : PL} (h : HsAt K H a L) : Dp K H (.ref a) (dH (L.map (·.2))) := by
  refine .lst h.1 ?_
  rw [List.map_map]
  exact dp_refs L h.2
theorem okc_lt {c : Nat} (h : okc c = true) : c < 127 := by
  unfold okc at h
  simp at h
  omega
theorem let_ok {z : Str} (h : IsLet z) : PyData.strOk z = true := by
  unfold PyData.strOk
  rw [← Array.all_toList]
  refine List.all_eq_true.mpr fun c hc => ?_
  have := okc_lt (List.all_eq_true.mp h c hc)
  exact decide_eq_true (by omega)
def LetAll (h : List (Int × Str)) : Prop := ∀ q ∈ h, IsLet q.2
theorem dH_lay : ∀ {h : List (Int × Str)}, LetAll h → PyData.canLayAll0 (h.map dPair) = true
  | [], _ => rfl
  | q :: r, a => by
    rw [List.map_cons, PyData.canLayAll0, dH_lay fun x m => a x (List.mem_cons_of_mem _ m)]
    simp [dPair, PyData.canLay0, PyData.canLayAll0, let_ok (a q (List.mem_cons_self ..))]
theorem dH_deep : ∀ (h : List (Int × Str)), PyData.depthAll (h.map dPair) ≤ 1
  | [] => Nat.zero_le _
  | q :: r => by
    rw [List.map_cons, PyData.depthAll]
    have := dH_deep r
    have e : PyData.depth (dPair q) = 1 := rfl
    rw [e]
    omega
theorem dH_shaped {h : List (Int × Str)} (a : LetAll h) : SeqAt.shaped (dH h) = true := by
  unfold SeqAt.shaped
  have e1 : (dH h).canLay0 = true := dH_lay a
  have e2 : (dH h).depth ≤ 64 := by
    show PyData.depthAll (h.map dPair) + 1 ≤ 64
    have := dH_deep h
    omega
  rw [e1, decide_eq_true e2]
  rfl
theorem dH_refl {h : List (Int × Str)} (a : LetAll h) : PyData.eqv (dH h) (dH h) = true := SeqAt.eqv_refl _ (show (dH h).canLay0 = true from dH_lay a)
/-- what is told or due: a tag and a thing -/
def dT (p : Str × PyData) : PyData := .tuple [.str p.1, p.2]
theorem dT_shaped {p : Str × PyData} (h1 : PyData.strOk p.1 = true) (h2 : p.2.canLay0 = true) (h3 : p.2.depth ≤ 60) : SeqAt.shaped (dT p) = true ∧ PyData.eqv (dT p) (dT p) = true := by
  have e1 : (dT p).canLay0 = true := by
    show (PyData.strOk p.1 && (p.2.canLay0 && true)) = true
    rw [h1, h2]
    rfl
  have e2 : (dT p).depth ≤ 64 := by
    show max 0 (max p.2.depth 0) + 1 ≤ 64
    omega
  refine ⟨?_, SeqAt.eqv_refl _ e1⟩
  unfold SeqAt.shaped
  rw [e1, decide_eq_true e2]
  rfl
theorem dH_depth (h : List (Int × Str)) : (dH h).depth ≤ 60 := by
  show PyData.depthAll (h.map dPair) + 1 ≤ 60
  have := dH_deep h
  omega
theorem isTxt_let {z : Str} (h : isTxt z = true) : IsLet z := by
  unfold isTxt at h
  exact (Bool.and_eq_true_iff.mp h).2
theorem IsHs.letAll {m : Nat} {h : List (Int × Str)} (a : IsHs m h) : LetAll h := fun q hq => (a.txt q hq).1
theorem LetAll.filter {h : List (Int × Str)} (a : LetAll h) (p : Int × Str → Bool) : LetAll (h.filter p) := fun q hq => a q (List.mem_filter.mp hq).1
theorem LetAll.app {h k : List (Int × Str)} (a : LetAll h) (b : LetAll k) : LetAll (h ++ k) := fun q hq => (List.mem_append.mp hq).elim (a q) (b q)
theorem letAll_ins {n : Int} {z : Str} {h : List (Int × Str)} (a : LetAll h) (b : IsLet z) : LetAll (h.filter (fun q => decide (q.1 < n)) ++ [(n, z)] ++ h.filter (fun q => decide (n < q.1))) :=
  ((a.filter _).app fun q hq => by rw [List.mem_singleton.mp hq]; exact b).app (a.filter _)
/-! a house that is none -/
theorem chk_true : ∀ {h : List (Int × Str)} {b : Int}, chk b h = true → (h.map (·.1)).Pairwise (· < ·) ∧ (∀ q ∈ h, b < q.1 ∧ q.1 ≤ 99 ∧ isTxt q.2 = true)
  | [], _, _ => ⟨List.Pairwise.nil, fun q hq => nomatch hq⟩
  | q :: r, b, h => by
    have h' : (decide (b < q.1) && decide (q.1 ≤ 99) && isTxt q.2 && chk q.1 r) = true := h
    simp only [Bool.and_eq_true, decide_eq_true_eq] at h'
    obtain ⟨⟨⟨h1, h2⟩, h3⟩, h4⟩ := h'
    obtain ⟨i1, i2⟩ := chk_true h4
    refine ⟨?_, fun x hx => ?_⟩
    · rw [List.map_cons, List.pairwise_cons]
      refine ⟨fun y hy => ?_, i1⟩
      obtain ⟨z, hz, rfl⟩ := List.mem_map.mp hy
      exact (i2 z hz).1
    · rcases List.mem_cons.mp hx with e | m
      · rw [e]; exact ⟨h1, h2, h3⟩
      · have := i2 x m
        exact ⟨by omega, this.2⟩
theorem isH_false {h : List (Int × Str)} (no : ¬ (h.length ≤ 8 ∧ (h.map (·.1)).Pairwise (· < ·) ∧ ∀ q ∈ h, -1 < q.1 ∧ q.1 ≤ 99 ∧ isTxt q.2 = true)) : isH h = false := by
  cases e : isH h with
  | false => rfl
  | true =>
    unfold isH at e
    obtain ⟨e1, e2⟩ := Bool.and_eq_true_iff.mp e
    exact absurd ⟨of_decide_eq_true e1, chk_true e2⟩ no
/-! ### a house filtered, pair by pair -/
theorem refs_get {L : PL} {i : Nat} {x : V} (h : (refs L)[i]? = some x) : ∃ t, L[i]? = some t ∧ t ∈ L ∧ x = .ref t.1 := by
  unfold refs at h
  rw [List.getElem?_map] at h
  cases e : L[i]? with
  | none => rw [e] at h; cases h
  | some t =>
    rw [e] at h
    cases h
    exact ⟨t, rfl, List.mem_of_getElem? e, rfl⟩
theorem lc_filter {K : PySem.W.Frag} {a : Addr} {L : PL} {g : TG} {tt : TT} {te : TE} {vs : List Nat} {τ : L2.St} {H1 : Hp} {D : Addr} {Qd : Hp → Prop} (hD : H1 D = none) (hA : HsAt K H1 a L) (hl : L.length ≤ 1000) (p : Addr × Int × Str → Bool)
    (hs : ∀ (q : Addr × Int × Str) (H' : Hp) (Qn : VK) (Qf : Hp → Prop), q ∈ L → Same H1 H' → (p q = true → Qn (.ref q.1) H') → (p q = false → Qf H') →
      g (.ref q.1) (wipe τ vs) H' fun τ2 H2 => wipe τ2 vs = wipe τ vs ∧ tt τ2 H2 fun b H3 => if b = true then te τ2 H3 Qn else Qf H3)
    (hd : ∀ H, Same H1 H → H D = some (.lst (refs (L.filter p))) → Qd H) :
    ∃ W : Nat → Nat → Hp → Prop, (∃ m, W 0 m (upd H1 D (.lst []))) ∧ ∀ i m H, W i m H →
      ((Itl K a).stop i H ∧ Qd H) ∨ ((Itl K a).go i H ∧ ∃ Nx : Hp → Prop, (∀ H', Nx H' → ∃ m', m' < m ∧ W (i + 1) m' H') ∧ ∀ x H', (Itl K a).yld i H x H' → g x (wipe τ vs) H' fun τ2 H2 => wipe τ2 vs = wipe τ vs ∧ tt τ2 H2 fun b H3 =>
        if b = true then te τ2 H3 fun y H4 => ∃ acc, H4 D = some (.lst acc) ∧ acc.length < sizeLine ∧ Nx (upd H4 D (.lst (acc ++ [y]))) else Nx H3) := by
  have rl : (refs L).length = L.length := List.length_map ..
  refine lc_w (walk_list (xs := refs L)) hD (by omega) (fun H' e => e.seq hA.1) (fun i acc _ => acc = refs ((L.take i).filter p)) (fun _ _ => rfl) (fun _ _ _ _ _ _ _ r => r) (fun i H x H' y => by rw [y.1]; exact Same.refl _)
    (fun i x acc H2 H3 Qn Qf hi sm y r at_ kn kf => ?_) (fun acc H2 sm at_ _ r => ?_)
  · obtain ⟨rfl, hx⟩ := y
    obtain ⟨t, ht, tm, rfl⟩ := refs_get hx
    refine hs t _ Qn Qf tm sm (fun e => kn _ _ (Same.refl _) ?_) (fun e => kf _ (Same.refl _) ?_)
    · rw [r, List.take_add_one, ht, List.filter_append]
      show _ = refs (_ ++ [t].filter p)
      rw [List.filter_cons_of_pos e]
      unfold refs
      rw [List.map_append]
      rfl
    · rw [r, List.take_add_one, ht, List.filter_append]
      show _ = refs (_ ++ [t].filter p)
      rw [List.filter_cons_of_neg (by rw [e]; decide), List.filter_nil, List.append_nil]
  · refine hd H2 sm ?_
    rw [at_, r, List.take_of_length_le (by omega)]
theorem HsAt.filter {K : PySem.W.Frag} {H : Hp} {L : PL} (h : PairsAt K H L) (p : Addr × Int × Str → Bool) : PairsAt K H (L.filter p) := fun q hq => h q (List.mem_filter.mp hq).1
theorem map_filter (L : PL) (p : Int × Str → Bool) : (L.filter fun q => p q.2).map (·.2) = (L.map (·.2)).filter p := by
  rw [List.filter_map]
  rfl
mutual
theorem dp_same {K : PySem.W.Frag} {H H' : Hp} (e : Same H H') : ∀ {d : PyData} {v : V}, Dp K H v d → Dp K H' v d
  | .none, _, h => by cases h; exact .non
  | .bool _, _, h => by cases h; exact .bl _
  | .int _, _, h => by cases h; exact .int _
  | .str _, _, h => by cases h; exact .str _
  | .list ds, _, h => by
    cases h with
    | lst s a => exact .lst (e.seq s) (dp_all_same e a)
  | .tuple ds, _, h => by
    cases h with
    | tup s a => exact .tup (same_tup e s) (dp_all_same e a)
  | .dict _, _, h => by cases h
theorem dp_all_same {K : PySem.W.Frag} {H H' : Hp} (e : Same H H') : ∀ {ds : List PyData} {vs : List V}, DpAll K H vs ds → DpAll K H' vs ds
  | [], _, h => by cases h; exact .nil
  | d :: ds, _, h => by
    cases h with
    | cons a b => exact .cons (dp_same e a) (dp_all_same e b)
end
/-! ### slices, texts of one letter joined -/
theorem cut_to (xs : List V) (k : Nat) : cutV xs none (some (k : Int)) = xs.take k := by
  unfold cutV
  rw [HT.sIx_none, HT.sIx_nat, List.drop_zero, Nat.sub_zero]
  rcases Nat.le_total k xs.length with h | h
  · rw [Nat.min_eq_left h]
  · rw [Nat.min_eq_right h, List.take_length, List.take_of_length_le h]
theorem joinL_len : ∀ (n c : Nat), (TL.joinL [] (List.replicate n [c])).length = n
  | 0, _ => rfl
  | 1, _ => rfl
  | n + 2, c => by
    show ([c] ++ ([] ++ TL.joinL [] (List.replicate (n + 1) [c]))).length = n + 2
    rw [List.nil_append, List.length_append, joinL_len (n + 1) c]
    show 1 + (n + 1) = n + 2
    omega
theorem join_len {n c : Nat} : (Txt.join "" (List.replicate n (⟨#[c]⟩ : Str))).length = n := by
  have e : (Txt.join "" (List.replicate n (⟨#[c]⟩ : Str))).cps.toList = TL.joinL [] (List.replicate n [c]) := by
    rw [TL.join_eq]
    refine (TL.tl_join "" _).trans ?_
    rw [List.map_replicate]
    rfl
  have e2 := congrArg List.length e
  rw [joinL_len] at e2
  exact e2
theorem joinL_mem {x : Nat} : ∀ (n c : Nat), x ∈ TL.joinL [] (List.replicate n [c]) → x = c
  | 0, _, h => by cases h
  | 1, _, h => by simpa [TL.joinL] using h
  | n + 2, c, h => by
    have h' : x ∈ [c] ++ ([] ++ TL.joinL [] (List.replicate (n + 1) [c])) := h
    rw [List.nil_append] at h'
    rcases List.mem_append.mp h' with m | m
    · exact List.mem_singleton.mp m
    · exact joinL_mem (n + 1) c m
theorem join_mem {n c x : Nat} (h : x ∈ (Txt.join "" (List.replicate n (⟨#[c]⟩ : Str))).cps.toList) : x = c := by
  have e : (Txt.join "" (List.replicate n (⟨#[c]⟩ : Str))).cps.toList = TL.joinL [] (List.replicate n [c]) := by
    rw [TL.join_eq]
    refine (TL.tl_join "" _).trans ?_
    rw [List.map_replicate]
    rfl
  rw [e] at h
  exact joinL_mem n c h
theorem isTxt_long {z : Str} (h : 40 < z.length) : isTxt z = false := by
  unfold isTxt
  rw [decide_eq_false (by omega)]
  rfl
theorem isTxt_line {z : Str} (h : 10 ∈ z.cps.toList) : isTxt z = false := by
  unfold isTxt
  have : z.cps.toList.all okc = false := by
    cases e : z.cps.toList.all okc with
    | false => rfl
    | true => exact absurd (List.all_eq_true.mp e 10 h) (by decide)
  rw [this, Bool.and_false]
end SH
set_option Elab.async false
set_option linter.all false
set_option maxRecDepth 100000
set_option maxHeartbeats 4000000
namespace SH
open PySem PySem.Spec PyProof.Rows L2
def topS (i : Nat) : Stmt := PySem.Challenge.pw_suffixhouse_k00_houses.main.body.getD i (.Pass ⟨0, 0, 0, 0⟩)
abbrev s_is_house : Stmt := topS 12
abbrev s_text_of : Stmt := topS 13
abbrev s_with_text : Stmt := topS 14
abbrev s_without_text : Stmt := topS 15
abbrev s__is_text : Stmt := topS 16
abbrev s__is_letter : Stmt := topS 17
abbrev s__has_number : Stmt := topS 18
abbrev s__law_draws : Stmt := topS 20
abbrev s__law_at : Stmt := topS 21
abbrev s__law_mix : Stmt := topS 23
abbrev s__law_letter : Stmt := topS 24
abbrev s__law_text : Stmt := topS 25
abbrev s__law_house : Stmt := topS 26
abbrev s__law_spoilt : Stmt := topS 27
abbrev s__law_told : Stmt := topS 28
abbrev s__law_due : Stmt := topS 29
abbrev s_law : Stmt := topS 30
structure Ea where
  fI : Addr
  c_HouseError : Addr
  c_BadText : Addr
  c_TooMany : Addr
  c_TakenNumber : Addr
  c_NoText : Addr
  c_OutOfRange : Addr
abbrev s_init : Stmt := inClass (topS 1) 0
structure Txt (K : PySem.W.Frag) (mg : Str → Option Value) (ea : Ea) : Prop where
  b_abs : mg "abs" = none
  b_all : mg "all" = none
  b_int : mg "int" = none
  b_len : mg "len" = none
  b_list : mg "list" = none
  b_min : mg "min" = none
  b_ord : mg "ord" = none
  b_range : mg "range" = none
  b_sorted : mg "sorted" = none
  m__GREATEST_NUMBER : ∃ t, mg "_GREATEST_NUMBER" = some (.int 99 t)
  m__MOST_LETTERS : ∃ t, mg "_MOST_LETTERS" = some (.int 40 t)
  m__MOST_TEXTS : ∃ t, mg "_MOST_TEXTS" = some (.int 8 t)
  m__PERCENT_SIGN : ∃ t, mg "_PERCENT_SIGN" = some (.int 37 t)
  d_is_house : Dd K mg "is_house" s_is_house ["house"]
  d_text_of : Dd K mg "text_of" s_text_of ["house", "number"]
  d_with_text : Dd K mg "with_text" s_with_text ["house", "number", "text"]
  d_without_text : Dd K mg "without_text" s_without_text ["house", "number"]
  d__is_text : Dd K mg "_is_text" s__is_text ["text"]
  d__is_letter : Dd K mg "_is_letter" s__is_letter ["character"]
  d__has_number : Dd K mg "_has_number" s__has_number ["house", "number"]
  d__law_draws : Dd K mg "_law_draws" s__law_draws ["script"]
  d__law_at : Dd K mg "_law_at" s__law_at ["draws", "k", "many"]
  d__law_mix : Dd K mg "_law_mix" s__law_mix ["draws", "k", "many"]
  d__law_letter : Dd K mg "_law_letter" s__law_letter ["cell"]
  d__law_text : Dd K mg "_law_text" s__law_text ["draws", "k", "most"]
  d__law_house : Dd K mg "_law_house" s__law_house ["draws", "k", "many", "most"]
  d__law_spoilt : Dd K mg "_law_spoilt" s__law_spoilt ["draws", "house"]
  d__law_told : Dd K mg "_law_told" s__law_told ["house", "number", "text", "word"]
  d__law_due : Dd K mg "_law_due" s__law_due ["house", "number", "text", "word"]
  d_law : Dd K mg "law" s_law ["script"]
  init : DdI K "HouseError.__init__" s_init ea.fI
  x_HouseError : ErrC K mg "HouseError" ea.c_HouseError ea.fI
  x_BadText : ErrC K mg "BadText" ea.c_BadText ea.fI
  x_TooMany : ErrC K mg "TooMany" ea.c_TooMany ea.fI
  x_TakenNumber : ErrC K mg "TakenNumber" ea.c_TakenNumber ea.fI
  x_NoText : ErrC K mg "NoText" ea.c_NoText ea.fI
  x_OutOfRange : ErrC K mg "OutOfRange" ea.c_OutOfRange ea.fI
  e_OutOfRange_OutOfRange : PySem.W.exmOne K (.ref ea.c_OutOfRange) (.ref ea.c_OutOfRange) = some true
  e_TakenNumber_OutOfRange : PySem.W.exmOne K (.ref ea.c_TakenNumber) (.ref ea.c_OutOfRange) = some false
  e_TakenNumber_TakenNumber : PySem.W.exmOne K (.ref ea.c_TakenNumber) (.ref ea.c_TakenNumber) = some true
  e_BadText_OutOfRange : PySem.W.exmOne K (.ref ea.c_BadText) (.ref ea.c_OutOfRange) = some false
  e_BadText_TakenNumber : PySem.W.exmOne K (.ref ea.c_BadText) (.ref ea.c_TakenNumber) = some false
  e_BadText_BadText : PySem.W.exmOne K (.ref ea.c_BadText) (.ref ea.c_BadText) = some true
  e_TooMany_OutOfRange : PySem.W.exmOne K (.ref ea.c_TooMany) (.ref ea.c_OutOfRange) = some false
  e_TooMany_TakenNumber : PySem.W.exmOne K (.ref ea.c_TooMany) (.ref ea.c_TakenNumber) = some false
  e_TooMany_BadText : PySem.W.exmOne K (.ref ea.c_TooMany) (.ref ea.c_BadText) = some false
  e_TooMany_TooMany : PySem.W.exmOne K (.ref ea.c_TooMany) (.ref ea.c_TooMany) = some true
  e_NoText_OutOfRange : PySem.W.exmOne K (.ref ea.c_NoText) (.ref ea.c_OutOfRange) = some false
  e_NoText_TakenNumber : PySem.W.exmOne K (.ref ea.c_NoText) (.ref ea.c_TakenNumber) = some false
  e_NoText_BadText : PySem.W.exmOne K (.ref ea.c_NoText) (.ref ea.c_BadText) = some false
  e_NoText_TooMany : PySem.W.exmOne K (.ref ea.c_NoText) (.ref ea.c_TooMany) = some false
  e_NoText_NoText : PySem.W.exmOne K (.ref ea.c_NoText) (.ref ea.c_NoText) = some true
section
variable {P : Program} {w : World} {K : PySem.W.Frag} {mg : Str → Option Value} {base : Heap} {ea : Ea}
theorem sc__law_at : FnScope ["draws", "k", "many"] ["draws", "k", "many"] (defScope s__law_at) := ⟨rfl, rfl, rfl, by decide +kernel, rfl, by decide +kernel, by decide +kernel⟩
theorem ok__law_at (T : Txt K mg ea) : Cl P w K mg base 1 "_law_at" (spDraw K) := by
  have nd := sc__law_at.nd
  refine cl_of T.d__law_at sc__law_at (fun vs H Q E h => ?_) (fun f cdv A outer s H vs Q E hr h => ?_)
  · obtain ⟨a, ns, k, many, rfl, _⟩ := h
    rfl
  · obtain ⟨a, ns, k, many, rfl, hS, hD, h0, h1, hm, q⟩ := h
    refine ⟨_, (pss_cons (ps_if (pt_cmpR op_lt (pv 1) (pe_callB call_len_seq (by rfl) T.b_len PySem.boot_len (pa_cons (pv 0) pa_nil)) (nomark _))
        (pss_one (ps_ret (pe_op op_mod (pe_callTy call_int1 (by rfl) T.b_int (by decide +kernel) (pa_cons (pe_ix (ixl (K := K)) (pv 0) (pv 1) (fun _ _ => rfl)) pa_nil)) (pv 2))))
        pss_nil)
      (pss_one (ps_ret pe_int))), ?_⟩
    refine ⟨_, rfl, _, rfl, _, _, rfl, .inl hS, _, _, rfl, rfl, _, rfl, ite2 (fun e => ?_) (fun e => ?_)⟩
    · have e' := of_decide_eq_true e
      rw [List.length_map] at e'
      obtain ⟨z, hz, hm2⟩ := at_ints h0 e'
      refine ⟨_, rfl, _, rfl, _, _, _, _, rfl, rfl, hS, hz, .inl ⟨_, rfl, _, rfl, _, _, rfl, rfl, hm, ?_⟩⟩
      exact q _ (Int.emod_nonneg _ (by omega)) (Int.emod_lt_of_pos _ hm)
    · exact q 0 (by omega) hm
theorem sc__law_mix : FnScope ["draws", "k", "many", "value"] ["draws", "k", "many"] (defScope s__law_mix) := ⟨rfl, rfl, rfl, by decide +kernel, rfl, by decide +kernel, by decide +kernel⟩
theorem ok__law_mix (T : Txt K mg ea) : Cl P w K mg base 1 "_law_mix" (spDraw K) := by
  have nd := sc__law_mix.nd
  refine cl_of T.d__law_mix sc__law_mix (fun vs H Q E h => ?_) (fun f cdv A outer s H vs Q E hr h => ?_)
  · obtain ⟨a, ns, k, many, rfl, _⟩ := h
    rfl
  · obtain ⟨a, ns, k, many, rfl, hS, hD, h0, h1, hm, q⟩ := h
    refine ⟨_, (pss_cons (ps_set (i := 3) nd rfl (.inl rfl) pe_int)
      (C8.pss_cut (ps_if (pt_cmpR op_gt (pe_callB call_len_seq (by rfl) T.b_len PySem.boot_len (pa_cons (pv 0) pa_nil)) pe_int (nomark _))
        (pss_one (ps_set (i := 3) nd rfl (.inl rfl) (pe_ix (ixl (K := K)) (pv 0) (pe_op op_mod (pe_callTy call_int1 (by rfl) T.b_int (by decide +kernel) (pa_cons (pv 1) pa_nil)) (pe_callB call_len_seq (by rfl) T.b_len PySem.boot_len (pa_cons (pv 0) pa_nil))) (fun _ _ => rfl))))
        pss_nil)
      (pss_cons (ps_if (pt_cmpR op_lt (pv 1) (pe_callB call_len_seq (by rfl) T.b_len PySem.boot_len (pa_cons (pv 0) pa_nil)) (nomark _))
        (pss_one (ps_ret (pe_op op_mod (pe_callTy call_int1 (by rfl) T.b_int (by decide +kernel) (pa_cons (pv 3) pa_nil)) (pv 2))))
        pss_nil)
      (pss_one (ps_ret (pe_op op_mod (pe_callTy call_int1 (by rfl) T.b_int (by decide +kernel) (pa_cons (pe_op op_fdiv (pe_callTy call_int1 (by rfl) T.b_int (by decide +kernel) (pa_cons (pe_op op_add (pe_op op_mul (pv 3) pe_int) (pe_op op_mul (pv 1) pe_int)) pa_nil)) pe_int) pa_nil)) (pv 2))))))), ?_⟩
    have hl : (ns.map V.int).length = ns.length := List.length_map ..
    -- the value is a small number behind the if
    refine ⟨fun σ H' => H' = H ∧ ∃ z : Int, 0 ≤ z ∧ z < 65536 ∧ σ = [some (.ref a), some (.int k), some (.int many), some (.int z)], ?_, ?_⟩
    · refine ⟨_, rfl, _, _, rfl, .inl hS, _, _, rfl, rfl, _, rfl, ite2 (fun e => ?_) (fun e => ?_)⟩
      · have e' := of_decide_eq_true e
        rw [hl] at e'
        obtain ⟨z, hz, hm2⟩ := at_ints (ns := ns) (i := k % (ns.length : Int)) (Int.emod_nonneg _ (by omega)) (Int.emod_lt_of_pos _ (by omega))
        refine ⟨_, rfl, _, rfl, .inl ⟨_, rfl, _, rfl, _, _, rfl, .inl hS, _, _, rfl, rfl, (by show (0 : Int) < ((ns.map V.int).length : Int); omega), ?_⟩⟩
        refine ⟨_, _, _, _, rfl, rfl, hS, (by rw [hl]; exact hz), ?_⟩
        exact ⟨rfl, z, (hD.2 z hm2).1, (hD.2 z hm2).2, rfl⟩
      · exact ⟨rfl, 0, by omega, by omega, rfl⟩
    · rintro σ' H' ⟨rfl, z, z0, z1, rfl⟩
      refine ⟨_, rfl, _, rfl, _, _, rfl, .inl hS, _, _, rfl, rfl, _, rfl, ite2 (fun e => ?_) (fun e => ?_)⟩
      · refine ⟨_, rfl, .inl ⟨_, rfl, _, rfl, _, _, rfl, rfl, hm, ?_⟩⟩
        exact q _ (Int.emod_nonneg _ (by omega)) (Int.emod_lt_of_pos _ hm)
      · refine ⟨_, rfl, _, _, rfl, rfl, .inr (by decide), _, rfl, _, _, rfl, rfl, .inr (by decide), _, _, rfl, rfl, .inl ⟨_, rfl, _, _, rfl, rfl, (by constructor <;> decide), .inl ⟨_, rfl, _, rfl, _, _, rfl, rfl, hm, ?_⟩⟩⟩
        exact q _ (Int.emod_nonneg _ (by omega)) (Int.emod_lt_of_pos _ hm)
/-- a letter -/
def spLetter : Sp := fun vs H Q _ => ∃ i : Int, vs = [.int i] ∧ ∀ c : Nat, okc c = true → Q (.str ⟨#[c]⟩) H
theorem sc__law_letter : FnScope ["cell", "table"] ["cell"] (defScope s__law_letter) := ⟨rfl, rfl, rfl, by decide +kernel, rfl, by decide +kernel, by decide +kernel⟩
theorem ok__law_letter (T : Txt K mg ea) : Cl P w K mg base 1 "_law_letter" spLetter := by
  have nd := sc__law_letter.nd
  refine cl_of T.d__law_letter sc__law_letter (fun vs H Q E h => ?_) (fun f cdv A outer s H vs Q E hr h => ?_)
  · obtain ⟨i, rfl, _⟩ := h
    rfl
  · obtain ⟨i, rfl, q⟩ := h
    refine ⟨_, (pss_cons (ps_set (i := 1) nd rfl (.inl rfl) pe_str)
      (pss_one (ps_ret (pe_ix ix_str (pv 1) (pe_op op_mod (pe_callTy call_int1 (by rfl) T.b_int (by decide +kernel) (pa_cons (pv 0) pa_nil)) pe_int) (fun _ _ => rfl))))), ?_⟩
    refine ⟨_, rfl, _, rfl, .inl ⟨_, rfl, _, _, rfl, rfl, (by show (0 : Int) < 94; decide), ?_⟩⟩
    refine (?_ : ∀ z : Str, z.cps.toList.length = 94 → IsLet z → ∃ (z' : Str) (j : Int) (c : Nat), V.str z = .str z' ∧ V.int (i % 94) = .int j ∧ z'.length ≤ sizeLine ∧ atI z'.cps.toList j = some c ∧ Q (.str ⟨#[c]⟩) H) _ (by decide +kernel) (by decide +kernel)
    intro z hl hz
    obtain ⟨c, hc, hm⟩ := str_at (z := z) (i := i % 94) (Int.emod_nonneg _ (by decide)) (by rw [hl]; exact Int.emod_lt_of_pos _ (by decide))
    refine ⟨z, _, c, rfl, rfl, ?_, hc, q c (List.all_eq_true.mp hz c hm)⟩
    have : z.length = 94 := by simpa [Str.length] using hl
    rw [this]
    decide
/-- a text of at most so many letters -/
def spText (K : PySem.W.Frag) : Sp := fun vs H Q _ => ∃ (a : Addr) (ns : List Int) (k : Int) (most : Nat), vs = [.ref a, .int k, .int most] ∧ SqL K H a (ns.map V.int) ∧ Dr ns ∧ 0 ≤ k ∧ k < 50000 ∧ most ≤ 100 ∧
  ∀ (z : Str) (H' : Hp), Same H H' → IsLet z → z.length ≤ most → Q (.str z) H'
theorem sc__law_text : FnScope ["draws", "k", "most", "word", "text", "n", "cell", "letters"] ["draws", "k", "most"] (defScope s__law_text) := ⟨rfl, rfl, rfl, by decide +kernel, rfl, by decide +kernel, by decide +kernel⟩
theorem ok__law_text (T : Txt K mg ea) (c__law_mix : Cl P w K mg base 1 "_law_mix" (spDraw K)) (c__law_letter : Cl P w K mg base 1 "_law_letter" spLetter) : Cl P w K mg base 2 "_law_text" (spText K) := by
  have nd := sc__law_text.nd
  refine cl_of T.d__law_text sc__law_text (fun vs H Q E h => ?_) (fun f cdv A outer s H vs Q E hr h => ?_)
  · obtain ⟨a, ns, k, most, rfl, _⟩ := h
    rfl
  · obtain ⟨a, ns, k, most, rfl, hS, hD, h0, h1, hm, q⟩ := h
    refine ⟨_, (pss_cons (ps_set (i := 3) nd rfl (.inl rfl) (C8.pe_c c__law_mix hr (by decide) (by rfl) (pa_cons (pv 0) (pa_cons (pe_op op_add (pv 1) pe_int) (pa_cons pe_int pa_nil)))))
      (pss_cons (ps_set (i := 4) nd rfl (.inl rfl) pe_str)
      (pss_cons (ps_for PassesOwn.never rfl (pi_range1 rfl T.b_range (pa_cons (C8.pe_c c__law_mix hr (by decide) (by rfl) (pa_cons (pv 0) (pa_cons (pv 1) (pa_cons (pe_op op_add (pv 2) pe_int) pa_nil)))) pa_nil)) (pg_name (i := 5) nd rfl (.inl rfl))
        (pss_cons (ps_set (i := 6) nd rfl (.inl rfl) (C8.pe_c c__law_mix hr (by decide) (by rfl) (pa_cons (pv 0) (pa_cons (pe_op op_add (pe_op op_add (pv 1) pe_int) (pv 5)) (pa_cons pe_int pa_nil)))))
          (pss_cons (ps_set (i := 7) nd rfl (.inl rfl) (pe_lst (pa_cons (pe_ix ix_str pe_str (pe_op op_mod (pe_callTy call_int1 (by rfl) T.b_int (by decide +kernel) (pa_cons (pe_op op_fdiv (pv 6) pe_int) pa_nil)) pe_int) (fun _ _ => rfl)) (pa_cons (pe_ix ix_str pe_str (pe_op op_mod (pe_callTy call_int1 (by rfl) T.b_int (by decide +kernel) (pa_cons (pe_op op_fdiv (pv 6) pe_int) pa_nil)) pe_int) (fun _ _ => rfl)) (pa_cons (pe_ix ix_str pe_str (pe_op op_andM (pe_callTy call_int1 (by rfl) T.b_int (by decide +kernel) (pa_cons (pv 6) pa_nil)) pe_int) (fun _ _ => rfl)) (pa_cons (C8.pe_c c__law_letter hr (by decide) (by rfl) (pa_cons (pv 6) pa_nil)) (pa_cons pe_str pa_nil)))))))
          (pss_one (ps_set (i := 4) nd rfl (.inl rfl) (pe_op op_add_str (pv 4) (pe_ix (ixl (K := K)) (pv 7) (pv 3) (fun _ _ => rfl))))))))
      (pss_one (ps_ret (pv 4)))))), ?_⟩
    refine ⟨_, rfl, _, rfl, _, _, rfl, rfl, a, ns, k + 1, 5, rfl, hS, hD, by omega, by omega, by omega, fun word w0 w1 => ?_⟩
    refine ⟨_, rfl, _, rfl, _, rfl, _, _, rfl, rfl, a, ns, k, (most : Int) + 1, rfl, hS, hD, by omega, by omega, by omega, fun r r0 r1 => ?_⟩
    refine ⟨r, rfl, by omega, by omega, ?_⟩
    refine for_range (lo := 0) (n := r.toNat) (fun i σ H' => ∃ (z : Str) (y5 y6 y7 : Option V), σ = [some (.ref a), some (.int k), some (.int most), some (.int word), some (.str z), y5, y6, y7] ∧ Same H H' ∧ IsLet z ∧ z.length ≤ i)
      ⟨_, none, none, none, rfl, Same.refl H, (by decide), (by decide)⟩ (fun i σ H' hi hW => ?_) (fun σ H' hW => ?_)
    · obtain ⟨z, y5, y6, y7, rfl, sm, hz, hl⟩ := hW
      have hS1 := sm.seq hS
      refine ⟨_, rfl, _, rfl, _, _, rfl, rfl, _, rfl, _, _, rfl, rfl, a, ns, k + 2 + (0 + (i : Int)), 9000, rfl, hS1, hD, by omega, by omega, by omega, fun cell c0 c1 => ?_⟩
      refine ⟨_, rfl, _, _, rfl, rfl, (by constructor <;> decide), .inl ⟨_, rfl, _, _, rfl, rfl, (by show (0 : Int) < 2; decide), ?_⟩⟩
      refine ixs_let (by decide) (by decide) (Int.emod_nonneg _ (by decide)) (Int.emod_lt_of_pos _ (by decide)) fun u1 v1 => ?_
      refine ⟨_, rfl, _, _, rfl, rfl, (by constructor <;> decide), .inl ⟨_, rfl, _, _, rfl, rfl, (by show (0 : Int) < 3; decide), ?_⟩⟩
      refine ixs_let (by decide) (by decide) (Int.emod_nonneg _ (by decide)) (Int.emod_lt_of_pos _ (by decide)) fun u2 v2 => ?_
      refine ⟨_, rfl, .inl ⟨_, rfl, cell, 2, rfl, rfl, ?_⟩⟩
      refine ixs_let (by decide) (by decide) (Int.emod_nonneg _ (by decide)) (Int.emod_lt_of_pos _ (by decide)) fun u3 v3 => ?_
      refine ⟨_, rfl, cell, rfl, fun u4 v4 => ?_⟩
      refine ⟨(by show 5 ≤ sizeLine; decide), fun l hl2 => ?_⟩
      have sm2 : Same H (upd H' l (.lst ([(⟨#[u1]⟩ : Str), ⟨#[u2]⟩, ⟨#[u3]⟩, ⟨#[u4]⟩, "a"].map V.str))) := sm.trans (same_new hl2)
      obtain ⟨x, hx, hxm⟩ := at_map V.str (xs := [(⟨#[u1]⟩ : Str), ⟨#[u2]⟩, ⟨#[u3]⟩, ⟨#[u4]⟩, "a"]) (i := word) w0 w1
      have hx1 : IsLet x ∧ x.length = 1 := by
        simp only [List.mem_cons, List.not_mem_nil, or_false] at hxm
        rcases hxm with e | e | e | e | e <;> subst e
        · exact ⟨let_one v1, rfl⟩
        · exact ⟨let_one v2, rfl⟩
        · exact ⟨let_one v3, rfl⟩
        · exact ⟨let_one v4, rfl⟩
        · exact ⟨by decide, by decide⟩
      refine ⟨_, rfl, _, rfl, _, rfl, l, _, word, .str x, rfl, rfl, .inl (.inl upd_same), hx, z, x, rfl, rfl, ?_, ?_⟩
      · exact Nat.le_trans (by omega : z.length + x.length ≤ 1000) (by decide)
      · exact ⟨_, _, _, _, rfl, sm2, let_app hz hx1.1, by rw [len_app]; omega⟩
    · obtain ⟨z, y5, y6, y7, rfl, sm, hz, hl⟩ := hW
      exact ⟨_, rfl, q z H' sm hz (by omega)⟩
/-- the numbers drawn from the script: a new list of small numbers -/
def spDraws (K : PySem.W.Frag) : Sp := fun vs H Q _ => ∃ (a : Addr) (ns : List Int), vs = [.ref a] ∧ SqL K H a (ns.map V.int) ∧ ns.length ≤ 63 ∧
  ∀ (p : Addr) (ds : List Int) (H' : Hp), Same H H' → H p = none → H' p = some (.lst (ds.map V.int)) → Dr ds → Q (.ref p) H'
/-- the list at p so far -/
structure DrAt (H H' : Hp) (p : Addr) (n : Nat) (ds : List Int) : Prop where
  sm : Same H H'
  at_ : H' p = some (.lst (ds.map V.int))
  len : ds.length ≤ n
  all : ∀ z ∈ ds, 0 ≤ z ∧ z < 65536
theorem DrAt.more {H H' : Hp} {p : Addr} {n : Nat} {ds : List Int} (h : DrAt H H' p n ds) (hp : H p = none) {z : Int} (z0 : 0 ≤ z) (z1 : z < 65536) : DrAt H (upd H' p (.lst (ds.map V.int ++ [.int z]))) p (n + 1) (ds ++ [z]) :=
  ⟨same_mut h.sm hp, by rw [upd_same, List.map_append]; rfl, by rw [List.length_append]; have := h.len; simp; omega, fun y hy => by
    rcases List.mem_append.mp hy with m | m
    · exact h.all y m
    · rw [List.mem_singleton.mp m]; exact ⟨z0, z1⟩⟩
theorem DrAt.mono {H H' : Hp} {p : Addr} {n m : Nat} {ds : List Int} (h : DrAt H H' p n ds) (l : n ≤ m) : DrAt H H' p m ds := ⟨h.sm, h.at_, Nat.le_trans h.len l, h.all⟩
theorem sc__law_draws : FnScope ["script", "draws", "k", "rest", "turn", "mixed"] ["script"] (defScope s__law_draws) := ⟨rfl, rfl, rfl, by decide +kernel, rfl, by decide +kernel, by decide +kernel⟩
theorem ok__law_draws (T : Txt K mg ea) : Cl P w K mg base 1 "_law_draws" (spDraws K) := by
  have nd := sc__law_draws.nd
  refine cl_of T.d__law_draws sc__law_draws (fun vs H Q E h => ?_) (fun f cdv A outer s H vs Q E hr h => ?_)
  · obtain ⟨a, ns, rfl, _⟩ := h
    rfl
  · obtain ⟨a, ns, rfl, hS, hl, q⟩ := h
    refine ⟨_, (pss_cons (ps_set (i := 1) nd rfl (.inl rfl) (pe_lst pa_nil))
      (pss_cons (ps_for PassesOwn.never rfl (pi_range1 rfl T.b_range (pa_cons (pe_callB (call_min2 rfl) (by rfl) T.b_min (by decide +kernel) (pa_cons pe_int (pa_cons (pe_callB call_len_seq (by rfl) T.b_len PySem.boot_len (pa_cons (pv 0) pa_nil)) pa_nil))) pa_nil)) (pg_name (i := 2) nd rfl (.inl rfl))
        (pss_cons (ps_set (i := 3) nd rfl (.inl rfl) (pe_callB call_abs (by rfl) T.b_abs (by decide +kernel) (pa_cons (pe_ix (ixl (K := K)) (pv 0) (pv 2) (fun _ _ => rfl)) pa_nil)))
          (pss_one (ps_if (pt_cmpR op_ge (pv 3) (pe_op op_pow pe_int pe_int) (nomark _))
            (pss_one (ps_for PassesOwn.never rfl (pi_range1 rfl T.b_range (pa_cons pe_int pa_nil)) (pg_name (i := 4) nd rfl (.inl rfl))
                (pss_one (ps_if (pt_cmpR op_gt (pv 3) pe_int (nomark _))
                    (pss_cons (ps_expr (pe_bm PySem.F.plainAttrs_list PySem.F.slot_list_append PySem.F.type_list_append mt_append (pv 1) (pa_cons (pe_op op_mod (pe_callTy call_int1 (by rfl) T.b_int (by decide +kernel) (pa_cons (pv 3) pa_nil)) pe_int) pa_nil)))
                      (pss_one (ps_set (i := 3) nd rfl (.inl rfl) (pe_op op_fdiv (pv 3) pe_int))))
                    pss_nil))))
            (pss_cons (ps_set (i := 5) nd rfl (.inl rfl) (pe_op op_mod (pe_callTy call_int1 (by rfl) T.b_int (by decide +kernel) (pa_cons (pe_op op_add (pe_op op_mul (pv 3) pe_int) (pe_op op_mul (pe_op op_add (pv 2) pe_int) pe_int)) pa_nil)) pe_int))
              (pss_cons (ps_set (i := 5) nd rfl (.inl rfl) (pe_op op_mod (pe_callTy call_int1 (by rfl) T.b_int (by decide +kernel) (pa_cons (pe_op op_add (pe_op op_add (pe_op op_mul (pv 5) pe_int) (pe_op op_mul pe_int (pv 2))) pe_int) pa_nil)) pe_int))
              (pss_cons (ps_expr (pe_bm PySem.F.plainAttrs_list PySem.F.slot_list_append PySem.F.type_list_append mt_append (pv 1) (pa_cons (pe_op op_mod (pe_callTy call_int1 (by rfl) T.b_int (by decide +kernel) (pa_cons (pv 5) pa_nil)) pe_int) pa_nil)))
              (pss_one (ps_expr (pe_bm PySem.F.plainAttrs_list PySem.F.slot_list_append PySem.F.type_list_append mt_append (pv 1) (pa_cons (pe_op op_mod (pe_callTy call_int1 (by rfl) T.b_int (by decide +kernel) (pa_cons (pe_op op_fdiv (pv 5) pe_int) pa_nil)) pe_int) pa_nil)))))))))))
      (pss_one (ps_ret (pv 1))))), ?_⟩
    refine ⟨Nat.zero_le _, fun p hp => ?_⟩
    have sm0 : Same H (upd H p (.lst [])) := same_new hp
    have hlen : (ns.map V.int).length = ns.length := List.length_map ..
    refine ⟨_, rfl, _, _, rfl, .inl (sm0.seq hS), _, _, rfl, ?_⟩
    have hm : (if ((ns.map V.int).length : Int) < 63 then ((ns.map V.int).length : Int) else 63) ≤ ns.length ∧ 0 ≤ (if ((ns.map V.int).length : Int) < 63 then ((ns.map V.int).length : Int) else 63) ∧ (if ((ns.map V.int).length : Int) < 63 then ((ns.map V.int).length : Int) else 63) ≤ 63 := by
      rw [hlen]; split <;> omega
    refine ⟨_, rfl, by omega, by omega, ?_⟩
    generalize (if ((ns.map V.int).length : Int) < 63 then ((ns.map V.int).length : Int) else 63) = m at hm ⊢
    obtain ⟨m1, m0, m2⟩ := hm
    refine for_range (lo := 0) (n := m.toNat) (fun i σ H' => ∃ (ds : List Int) (y2 y3 y4 y5 : Option V), σ = [some (.ref a), some (.ref p), y2, y3, y4, y5] ∧ DrAt H H' p (60 * i) ds)
      ⟨[], none, none, none, none, rfl, sm0, upd_same, Nat.zero_le _, fun z hz => by cases hz⟩ (fun i σ H' hi hW => ?_) (fun σ H' hW => ?_)
    · obtain ⟨ds, y2, y3, y4, y5, rfl, hA⟩ := hW
      obtain ⟨z, hz, _⟩ := at_ints (ns := ns) (i := 0 + (i : Int)) (by omega) (by omega)
      refine ⟨_, rfl, _, rfl, _, _, _, _, rfl, rfl, hA.sm.seq hS, hz, _, rfl, ?_⟩
      generalize (if z < 0 then -z else z) = r
      refine ⟨_, rfl, _, _, rfl, rfl, ⟨by decide, by decide, by decide⟩, _, _, rfl, rfl, _, rfl, ite2 (fun e => ?_) (fun e => ?_)⟩
      · -- a great number: its digits
        refine ⟨60, rfl, by decide, by decide, ?_⟩
        refine for_range (lo := 0) (n := 60) (fun j σ H' => ∃ (ds : List Int) (r' : Int) (y4 : Option V), σ = [some (.ref a), some (.ref p), some (.int (0 + (i : Int))), some (.int r'), y4, y5] ∧ DrAt H H' p (60 * i + j) ds)
          ⟨ds, r, y4, rfl, hA⟩ (fun j σ H2 hj hW => ?_) (fun σ H2 hW => ?_)
        · obtain ⟨ds2, r2, y42, rfl, hA2⟩ := hW
          refine ⟨_, rfl, _, _, rfl, rfl, _, rfl, ite2 (fun e => ?_) (fun e => ?_)⟩
          · refine ⟨_, rfl, .inl ⟨rfl, _, SqL.of hA2.at_⟩, _, rfl, .inl ⟨_, rfl, _, _, rfl, rfl, (by show (0 : Int) < 65536; decide), ?_⟩⟩
            refine ⟨p, _, _, rfl, rfl, hA2.at_, ?_, ?_⟩
            · rw [List.length_map]; exact Nat.lt_of_le_of_lt (Nat.le_trans hA2.len (by omega : _ ≤ 4000)) (by decide)
            · refine ⟨_, rfl, _, _, rfl, rfl, (by constructor <;> decide), ?_⟩
              exact ⟨_, _, _, rfl, hA2.more hp (Int.emod_nonneg _ (by decide)) (Int.emod_lt_of_pos _ (by decide))⟩
          · exact ⟨ds2, r2, _, rfl, hA2.mono (by omega)⟩
        · obtain ⟨ds2, r2, y42, rfl, hA2⟩ := hW
          exact ⟨ds2, _, _, _, _, rfl, hA2.mono (by omega)⟩
      · -- a lesser one: two numbers mixed
        refine ⟨_, rfl, _, _, rfl, rfl, .inr (by decide), _, rfl, _, _, rfl, rfl, _, _, rfl, rfl, .inr (by decide), _, _, rfl, rfl, .inl ⟨_, rfl, _, _, rfl, rfl, (by show (0 : Int) < 2147483647; decide), ?_⟩⟩
        refine ⟨_, rfl, _, _, rfl, rfl, .inr (by decide), _, rfl, _, _, rfl, rfl, .inl (by decide), _, _, rfl, rfl, _, _, rfl, rfl, .inl ⟨_, rfl, _, _, rfl, rfl, (by show (0 : Int) < 2147483629; decide), ?_⟩⟩
        have b1 : (ds.map V.int).length < sizeLine := by rw [List.length_map]; exact Nat.lt_of_le_of_lt (Nat.le_trans hA.len (by omega : _ ≤ 4000)) (by decide)
        refine ⟨_, rfl, .inl ⟨rfl, _, SqL.of hA.at_⟩, _, rfl, .inl ⟨_, rfl, _, _, rfl, rfl, (by show (0 : Int) < 65536; decide), p, _, _, rfl, rfl, hA.at_, b1, ?_⟩⟩
        have hB := hA.more hp (z := (((r * 48271 + (0 + (i : Int) + 1) * 69621) % 2147483647 * 16807 + 11 * (0 + (i : Int)) + 5) % 2147483629) % 65536) (Int.emod_nonneg _ (by decide)) (Int.emod_lt_of_pos _ (by decide))
        have b2 : ((ds ++ [(((r * 48271 + (0 + (i : Int) + 1) * 69621) % 2147483647 * 16807 + 11 * (0 + (i : Int)) + 5) % 2147483629) % 65536]).map V.int).length < sizeLine := by rw [List.length_map]; exact Nat.lt_of_le_of_lt (Nat.le_trans hB.len (by omega : _ ≤ 4000)) (by decide)
        refine ⟨_, rfl, .inl ⟨rfl, _, SqL.of hB.at_⟩, _, rfl, _, _, rfl, rfl, (by constructor <;> decide), .inl ⟨_, rfl, _, _, rfl, rfl, (by show (0 : Int) < 32768; decide), p, _, _, rfl, rfl, hB.at_, b2, ?_⟩⟩
        exact ⟨_, _, _, _, _, rfl, (hB.more hp (z := (((r * 48271 + (0 + (i : Int) + 1) * 69621) % 2147483647 * 16807 + 11 * (0 + (i : Int)) + 5) % 2147483629) / 65536 % 32768) (Int.emod_nonneg _ (by decide)) (by have := Int.emod_lt_of_pos ((((r * 48271 + (0 + (i : Int) + 1) * 69621) % 2147483647 * 16807 + 11 * (0 + (i : Int)) + 5) % 2147483629) / 65536) (show (0 : Int) < 32768 by decide); omega)).mono (by omega)⟩
    · obtain ⟨ds, y2, y3, y4, y5, rfl, hA⟩ := hW
      exact ⟨_, rfl, q p ds H' hA.sm hp hA.at_ ⟨Nat.le_trans hA.len (by omega), hA.all⟩⟩
/-- a house drawn -/
def spHouse (K : PySem.W.Frag) : Sp := fun vs H Q _ => ∃ (a : Addr) (ns : List Int) (k : Int) (many most : Nat), vs = [.ref a, .int k, .int many, .int most] ∧ SqL K H a (ns.map V.int) ∧ Dr ns ∧ 0 ≤ k ∧ k < 10000 ∧ many ≤ 8 ∧ most ≤ 40 ∧
  ∀ (p : Addr) (L : PL) (H' : Hp), Same H H' → H p = none → H' p = some (.lst (refs L)) → PairsAt K H' L → L.length ≤ many → IsHs most (L.map (·.2)) → Q (.ref p) H'
/-- the house so far -/
structure HsSo (K : PySem.W.Frag) (H H' : Hp) (p : Addr) (i most : Nat) (num : Int) (L : PL) : Prop where
  sm : Same H H'
  at_ : H' p = some (.lst (refs L))
  ps : PairsAt K H' L
  len : L.length = i
  hs : IsHs most (L.map (·.2))
  lt : ∀ q ∈ L, q.2.1 < num
  n0 : 0 ≤ num
  n1 : num ≤ 3 + 9 * (i : Int)
theorem HsSo.same {H H' H2 : Hp} {p : Addr} {i most : Nat} {num : Int} {L : PL} (h : HsSo K H H' p i most num L) (e : Same H' H2) : HsSo K H H2 p i most num L :=
  ⟨h.sm.trans e, e _ _ h.at_, h.ps.same e, h.len, h.hs, h.lt, h.n0, h.n1⟩
theorem hs_snoc {m : Nat} {h : List (Int × Str)} (a : IsHs m h) {n : Int} {z : Str} (lt : ∀ q ∈ h, q.1 < n) (n0 : 0 ≤ n) (n1 : n ≤ 99) (hz : IsLet z) (hl : z.length ≤ m) : IsHs m (h ++ [(n, z)]) := by
  refine ⟨?_, fun q hq => ?_, fun q hq => ?_⟩
  · rw [List.map_append, List.pairwise_append]
    refine ⟨a.asc, by simp, fun x hx y hy => ?_⟩
    obtain ⟨q, hq, rfl⟩ := List.mem_map.mp hx
    simp at hy
    subst hy
    exact lt q hq
  · rcases List.mem_append.mp hq with m1 | m1
    · exact a.num q m1
    · rw [List.mem_singleton.mp m1]; exact ⟨n0, n1⟩
  · rcases List.mem_append.mp hq with m1 | m1
    · exact a.txt q m1
    · rw [List.mem_singleton.mp m1]; exact ⟨hz, hl⟩
theorem sc__law_house : FnScope ["draws", "k", "many", "most", "house", "number", "n", "text"] ["draws", "k", "many", "most"] (defScope s__law_house) := ⟨rfl, rfl, rfl, by decide +kernel, rfl, by decide +kernel, by decide +kernel⟩
theorem ok__law_house (T : Txt K mg ea) (c__law_mix : Cl P w K mg base 1 "_law_mix" (spDraw K)) (c__law_text : Cl P w K mg base 2 "_law_text" (spText K)) : Cl P w K mg base 3 "_law_house" (spHouse K) := by
  have nd := sc__law_house.nd
  refine cl_of T.d__law_house sc__law_house (fun vs H Q E h => ?_) (fun f cdv A outer s H vs Q E hr h => ?_)
  · obtain ⟨a, ns, k, many, most, rfl, _⟩ := h
    rfl
  · obtain ⟨a, ns, k, many, most, rfl, hS, hD, h0, h1, hm, ho, q⟩ := h
    refine ⟨_, (pss_cons (ps_set (i := 4) nd rfl (.inl rfl) (pe_lst pa_nil))
      (pss_cons (ps_set (i := 5) nd rfl (.inl rfl) (C8.pe_c c__law_mix hr (by decide) (by rfl) (pa_cons (pv 0) (pa_cons (pv 1) (pa_cons pe_int pa_nil)))))
      (pss_cons (ps_for PassesOwn.never rfl (pi_range1 rfl T.b_range (pa_cons (C8.pe_c c__law_mix hr (by decide) (by rfl) (pa_cons (pv 0) (pa_cons (pe_op op_add (pv 1) pe_int) (pa_cons (pe_op op_add (pv 2) pe_int) pa_nil)))) pa_nil)) (pg_name (i := 6) nd rfl (.inl rfl))
        (pss_cons (ps_set (i := 7) nd rfl (.inl rfl) (C8.pe_c c__law_text hr (by decide) (by rfl) (pa_cons (pv 0) (pa_cons (pe_op op_add (pe_op op_add (pv 1) pe_int) (pe_op op_mul pe_int (pv 6))) (pa_cons (pv 3) pa_nil)))))
          (C8.pss_cut (ps_if (PW.pt (pw_and (pt_cmpR op_gt (pv 6) pe_int (nomark _)) (pw_and1 (pt_cmpR op_eq (C8.pe_c c__law_mix hr (by decide) (by rfl) (pa_cons (pv 0) (pa_cons (pe_op op_add (pe_op op_add (pv 1) pe_int) (pv 6)) (pa_cons pe_int pa_nil)))) pe_int (nomark _)))))
            (pss_one (ps_set (i := 7) nd rfl (.inl rfl) (pe_ix (ixt (K := K)) (pe_ix (ixl (K := K)) (pv 4) (pe_op op_sub (pv 6) pe_int) (fun _ _ => rfl)) pe_int (fun _ _ => rfl))))
            pss_nil)
          (pss_cons (ps_expr (pe_bm PySem.F.plainAttrs_list PySem.F.slot_list_append PySem.F.type_list_append mt_append (pv 4) (pa_cons (pe_tup (pa_cons (pv 5) (pa_cons (pv 7) pa_nil))) pa_nil)))
          (pss_one (ps_set (i := 5) nd rfl (.inl rfl) (pe_op op_add (pe_op op_add (pv 5) pe_int) (C8.pe_c c__law_mix hr (by decide) (by rfl) (pa_cons (pv 0) (pa_cons (pe_op op_add (pe_op op_add (pv 1) pe_int) (pv 6)) (pa_cons pe_int pa_nil)))))))))))
      (pss_one (ps_ret (pv 4)))))), ?_⟩
    refine ⟨Nat.zero_le _, fun p hp => ?_⟩
    have sm0 : Same H (upd H p (.lst [])) := same_new hp
    refine ⟨_, rfl, _, rfl, a, ns, k, 4, rfl, sm0.seq hS, hD, by omega, by omega, by omega, fun num u0 u1 => ?_⟩
    refine ⟨_, rfl, _, rfl, _, _, rfl, rfl, _, rfl, _, _, rfl, rfl, a, ns, k + 1, (many : Int) + 1, rfl, sm0.seq hS, hD, by omega, by omega, by omega, fun r r0 r1 => ?_⟩
    refine ⟨r, rfl, by omega, by omega, ?_⟩
    refine for_range (lo := 0) (n := r.toNat) (fun i σ H' => ∃ (L : PL) (num : Int) (y6 y7 : Option V), σ = [some (.ref a), some (.int k), some (.int many), some (.int most), some (.ref p), some (.int num), y6, y7] ∧ HsSo K H H' p i most num L)
      ⟨[], num, none, none, rfl, sm0, upd_same, (fun q hq => by cases hq), rfl, ⟨List.Pairwise.nil, (fun q hq => by cases hq), (fun q hq => by cases hq)⟩, (fun q hq => by cases hq), u0, by omega⟩ (fun i σ H' hi hW => ?_) (fun σ H' hW => ?_)
    · obtain ⟨L, num, y6, y7, rfl, hA⟩ := hW
      refine ⟨_, rfl, _, rfl, _, _, rfl, rfl, _, rfl, _, _, rfl, rfl, .inl (by decide), _, _, rfl, rfl, _, rfl, a, ns, k + 5 + 11 * (0 + (i : Int)), most, rfl, hA.sm.seq hS, hD, by omega, by omega, by omega, fun z H2 sm2 hz hl => ?_⟩
      have hA2 := hA.same sm2
      refine ⟨fun σ H3 => H3 = H2 ∧ ∃ x : Str, IsLet x ∧ x.length ≤ most ∧ σ = [some (.ref a), some (.int k), some (.int many), some (.int most), some (.ref p), some (.int num), some (.int (0 + (i : Int))), some (.str x)], ?_, ?_⟩
      · refine ⟨_, rfl, _, _, rfl, rfl, _, rfl, ite2 (fun e => ?_) (fun e => iteF ⟨rfl, z, hz, hl, rfl⟩)⟩
        have e' := of_decide_eq_true e
        refine ⟨_, rfl, _, rfl, _, _, rfl, rfl, _, rfl, _, _, rfl, rfl, a, ns, k + 3 + (0 + (i : Int)), 5, rfl, hA2.sm.seq hS, hD, by omega, by omega, by omega, fun r5 _ _ => ?_⟩
        refine ⟨rfl, _, rfl, ite2 (fun e2 => ?_) (fun e2 => ⟨rfl, z, hz, hl, rfl⟩)⟩
        obtain ⟨t, ht, hm2⟩ := at_map (fun q : Addr × Int × Str => V.ref q.1) (xs := L) (i := (0 + (i : Int)) - 1) (by omega) (by have := hA.len; omega)
        refine ⟨_, rfl, _, rfl, _, _, rfl, rfl, p, _, _, _, rfl, rfl, SqL.of hA2.at_, ht, _, _, _, _, rfl, rfl, hA2.ps t hm2, (show atI [V.int t.2.1, V.str t.2.2] 1 = some (.str t.2.2) from rfl), rfl, t.2.2, ?_⟩
        have := hA.hs.txt t.2 (List.mem_map_of_mem hm2)
        exact ⟨this.1, this.2, rfl⟩
      · rintro σ' H3 ⟨rfl, x, hx, hxl, rfl⟩
        refine ⟨_, rfl, .inl ⟨rfl, _, SqL.of hA2.at_⟩, _, rfl, _, rfl, (by show 2 ≤ sizeLine; decide), fun t ht => ?_⟩
        have pt : p ≠ t := ne_of_none hA2.at_ ht
        have at2 : (upd H3 t (.tup [.int num, .str x])) p = some (.lst (refs L)) := by rw [upd_ne pt]; exact hA2.at_
        refine ⟨p, _, _, rfl, rfl, at2, ?_, ?_⟩
        · show (L.map _).length < sizeLine
          rw [List.length_map, hA2.len]; exact Nat.lt_of_le_of_lt (by omega : i ≤ 1000) (by decide)
        have sm3 : Same H3 (upd H3 t (.tup [.int num, .str x])) := same_new ht
        have smp : ∀ o, Same H (upd (upd H3 t (.tup [.int num, .str x])) p o) := fun o => same_mut (hA2.sm.trans sm3) hp
        refine ⟨_, rfl, _, _, rfl, rfl, _, rfl, _, rfl, _, _, rfl, rfl, _, rfl, _, _, rfl, rfl, a, ns, k + 4 + (0 + (i : Int)), 9, rfl, (smp _).seq hS, hD, by omega, by omega, by omega, fun g g0 g1 => ?_⟩
        have n0 := hA.n0
        have n1 := hA.n1
        refine ⟨_, _, rfl, rfl, L ++ [(t, num, x)], _, _, _, rfl, smp _, ?_, ?_, ?_, ?_, ?_, ?_, ?_⟩
        · rw [upd_same]; show _ = some (HO.lst (List.map _ _)); rw [List.map_append]; rfl
        · intro q hq
          have nq : ∀ {b : Addr} {xs : List V}, SqT K (upd H3 t (.tup [.int num, .str x])) b xs → SqT K (upd (upd H3 t (.tup [.int num, .str x])) p (.lst (refs L ++ [.ref t]))) b xs := fun {b xs} h => by
            rcases h with (h | ⟨o, h⟩) | h
            · exact .inl (.inl (by rw [upd_ne (fun z => by rw [z, at2] at h; cases h)]; exact h))
            · exact .inl (.inr ⟨o, by rw [upd_ne (fun z => by rw [z, at2] at h; cases h)]; exact h⟩)
            · exact .inr h
          rcases List.mem_append.mp hq with m1 | m1
          · exact nq (same_tup sm3 (hA2.ps q m1))
          · rw [List.mem_singleton.mp m1]; exact nq (.inl (.inl upd_same))
        · rw [List.length_append, hA.len]; rfl
        · rw [List.map_append]
          exact hs_snoc hA.hs (fun q hq => by obtain ⟨y, hy, rfl⟩ := List.mem_map.mp hq; exact hA.lt y hy) n0 (by omega) hx hxl
        · intro q hq
          rcases List.mem_append.mp hq with m1 | m1
          · have := hA.lt q m1; omega
          · rw [List.mem_singleton.mp m1]; show num < _; omega
        · omega
        · omega
    · obtain ⟨L, num, y6, y7, rfl, hA⟩ := hW
      exact ⟨_, rfl, q p L H' hA.sm hp hA.at_ hA.ps (by have := hA.len; omega) hA.hs⟩
end

section
variable {P : Program} {w : World} {K : PySem.W.Frag} {mg : Str → Option Value} {base : Heap} {ea : Ea}
theorem sc_init : FnScope ["self", "at"] ["self", "at"] (defScope s_init) := ⟨rfl, rfl, rfl, by decide +kernel, rfl, by decide +kernel, by decide +kernel⟩
theorem ok_init (T : Txt K mg ea) : InitOk P w K mg base ea.fI := by
  obtain ⟨fd, F, b, t⟩ := T.init.ex
  refine ⟨fd, F.ok sc_init (fun vs H Q E h => ?_) (fun cdv A outer s H vs Q E hr h => ?_), b, t⟩
  · obtain ⟨a, C, n, rfl, _⟩ := h
    rfl
  · obtain ⟨a, C, n, rfl, To, Tn, hs, ha, q⟩ := h
    refine ⟨_, pss_cons (ps_ost (pv 0) (pv 1)) (pss_one (ps_if (pt_cmpR op_gt (pe_bits (pv 1)) pe_int (nomark _)) pss_never pss_nil)), ?_⟩
    refine ⟨_, rfl, _, rfl, a, C, rfl, To, Tn, .inl ⟨ha, fun dx n1 n2 => ?_⟩⟩
    refine ⟨_, rfl, n, rfl, _, _, rfl, rfl, _, rfl, ?_⟩
    rw [small_bits hs]
    exact iteF (q dx n1 n2)
end

end SH
set_option Elab.async false
set_option linter.all false
set_option maxRecDepth 100000
set_option maxHeartbeats 4000000
namespace SH
open PySem PySem.Spec PyProof.Rows L2
section
variable {P : Program} {w : World} {K : PySem.W.Frag} {mg : Str → Option Value} {base : Heap} {ea : Ea}
def spIsLetter : Sp := fun vs H Q _ => ∃ c : Nat, vs = [.str ⟨#[c]⟩] ∧ Q (.bl (okc c)) H
theorem sc__is_letter : FnScope ["character"] ["character"] (defScope s__is_letter) := ⟨rfl, rfl, rfl, by decide +kernel, rfl, by decide +kernel, by decide +kernel⟩
theorem ok__is_letter (T : Txt K mg ea) : Cl P w K mg base 1 "_is_letter" spIsLetter := by
  have nd := sc__is_letter.nd
  refine cl_of T.d__is_letter sc__is_letter (fun vs H Q E h => ?_) (fun f cdv A outer s H vs Q E hr h => ?_)
  · obtain ⟨c, rfl, _⟩ := h
    rfl
  · obtain ⟨c, rfl, q⟩ := h
    refine ⟨_, (pss_one (ps_ret (pe_and (pe_chain op_le_str op_le_str pe_str (pv 0) pe_str) (pe_one (pe_cmpR op_ne (pe_callB call_ord (by rfl) T.b_ord (by decide +kernel) (pa_cons (pv 0) pa_nil)) (pe_k T.m__PERCENT_SIGN) (nomark _)))))), ?_⟩
    have l1 : decide ((⟨#[c]⟩ : Str).cps.toList < (" " : Str).cps.toList) = decide (c < 32) := lt1 c 32
    have l2 : decide (("~" : Str).cps.toList < (⟨#[c]⟩ : Str).cps.toList) = decide (126 < c) := lt1 126 c
    refine ⟨_, rfl, _, _, rfl, rfl, _, rfl, ite2 (fun e1 => ?_) (fun e1 => ?_)⟩
    · rw [l1] at e1
      have c1 : ¬ c < 32 := by simpa using e1
      refine ⟨_, _, rfl, rfl, _, rfl, ite2 (fun e2 => ?_) (fun e2 => ?_)⟩
      · rw [l2] at e2
        have c2 : ¬ 126 < c := by simpa using e2
        refine ⟨_, rfl, _, rfl, rfl, rfl, ?_⟩
        have e3 : (!decide (V.int ((c : Nat) : Int) = V.int 37)) = okc c := by
          have a : okc c = decide (c ≠ 37) := by
            unfold okc
            rw [decide_eq_true (by omega : 32 ≤ c), decide_eq_true (by omega : c ≤ 126)]
            rfl
          rw [a]
          by_cases h : c = 37
          · subst h
            decide
          · have h2 : ¬ V.int ((c : Nat) : Int) = V.int 37 := fun z => h (by injection z with z; omega)
            rw [decide_eq_false h2, decide_eq_true h]
            rfl
        have q' := q
        rw [← e3] at q'
        exact q'
      · rw [l2] at e2
        have c2 : 126 < c := by simpa using e2
        have a : okc c = false := by
          unfold okc
          rw [decide_eq_false (by omega : ¬ c ≤ 126)]
          simp
        rw [a] at q
        exact q
    · rw [l1] at e1
      have c1 : c < 32 := by simpa using e1
      have a : okc c = false := by
        unfold okc
        rw [decide_eq_false (by omega : ¬ 32 ≤ c)]
        simp
      rw [a] at q
      exact ⟨_, rfl, iteF q⟩
def spIsText : Sp := fun vs H Q _ => ∃ z : Str, vs = [.str z] ∧ z.length ≤ 1000 ∧ ∀ H', Same H H' → Q (.bl (isTxt z)) H'
theorem sc__is_text : FnScope ["text", "character"] ["text"] (defScope s__is_text) := ⟨rfl, rfl, rfl, by decide +kernel, rfl, by decide +kernel, by decide +kernel⟩
theorem ok__is_text (T : Txt K mg ea) (c__is_letter : Cl P w K mg base 1 "_is_letter" spIsLetter) : Cl P w K mg base 2 "_is_text" spIsText := by
  have nd := sc__is_text.nd
  refine cl_of T.d__is_text sc__is_text (fun vs H Q E h => ?_) (fun f cdv A outer s H vs Q E hr h => ?_)
  · obtain ⟨z, rfl, _⟩ := h
    rfl
  · obtain ⟨z, rfl, hl, q⟩ := h
    refine ⟨_, (pss_one (ps_ret (pe_and (pe_cmpR op_le (pe_callB call_len_str (by rfl) T.b_len PySem.boot_len (pa_cons (pv 0) pa_nil)) (pe_k T.m__MOST_LETTERS) (nomark _)) (pe_one (pe_callB (cr_all rfl) (by rfl) T.b_all (by decide +kernel) (pa_cons (pe_lc (own := [("character", 1)]) (g := (gName 1)) rfl nd (pi_str (pv 0)) (blkOk_by (own := [("character", 1)]) (N := ["text", "character"]) (sc := defScope s__is_text) (by decide +kernel)) (fun _ _ _ _ _ => (pg_name (i := 1) nd rfl (.inl rfl))) (fun _ _ _ _ _ => pts_nil) (fun _ _ _ _ _ => (C8.pe_c c__is_letter hr (by decide) (by rfl) (pa_cons (pv 1) pa_nil)))) pa_nil)))))), ?_⟩
    refine ⟨_, rfl, z, rfl, Nat.le_trans hl (by decide), _, _, rfl, rfl, _, rfl, ite2 (fun e => ?_) (fun e => ?_)⟩
    · have e1 : z.length ≤ 40 := by have := of_decide_eq_true e; omega
      refine ⟨_, rfl, z, rfl, fun D hD => ?_⟩
      have hz : z.cps.toList.length = z.length := rfl
      refine lc_w walk_str hD (by show z.cps.size ≤ 100000; exact Nat.le_trans hl (by decide)) (fun _ _ => trivial) (fun i acc _ => acc = ((z.cps.toList.take i).map okc).map V.bl) (fun _ _ => rfl) (fun _ _ _ _ _ _ _ r => r) (fun i H x H' y => by rw [y.1]; exact Same.refl _) (fun i x acc H1 H2 Qn Qf hi sm y r at_ kn kf => ?_) (fun acc H1 sm at_ _ r => ?_)
      · obtain ⟨rfl, c, hc, rfl⟩ := y
        refine ⟨rfl, _, rfl, c, rfl, kn _ _ (Same.refl _) ?_⟩
        rw [r, List.take_add_one, List.map_append, List.map_append]
        have hc2 : z.cps.toList[i]? = some c := by rw [Array.getElem?_toList]; exact hc
        rw [hc2]
        rfl
      · refine ⟨D, (z.cps.toList).map okc, rfl, .inl (.inl ?_), ?_⟩
        · rw [at_, r]
          rw [List.take_of_length_le (by show z.cps.toList.length ≤ z.cps.size; simp)]
        · have := q H1 sm
          have e2 : isTxt z = ((z.cps.toList).map okc).all id := by
            unfold isTxt
            rw [decide_eq_true e1, List.all_map]
            rfl
          rw [e2] at this
          exact this
    · have e1 : ¬ z.length ≤ 40 := fun h => e (decide_eq_true (by omega))
      have := q H (Same.refl H)
      have e2 : isTxt z = false := by
        unfold isTxt
        rw [decide_eq_false e1]
        rfl
      rw [e2] at this
      exact this
def spHasNumber (K : PySem.W.Frag) : Sp := fun vs H Q _ => ∃ (a : Addr) (L : PL) (n : Int), vs = [.ref a, .int n] ∧ HsAt K H a L ∧ L.length ≤ 1000 ∧ ∀ H', Same H H' → Q (.bl (decide (n ∈ L.map fun q => q.2.1))) H'
theorem inV_ints (n : Int) (l : List Int) : inV (.int n) (l.map V.int) = decide (n ∈ l) := by
  unfold inV
  induction l with
  | nil => simp
  | cons x r ih =>
    rw [List.map_cons, List.any_cons, ih]
    show (x == n || decide (n ∈ r)) = decide (n ∈ x :: r)
    by_cases h : x = n
    · subst h
      simp
    · have h2 : (x == n) = false := by simpa using h
      have h3 : ¬ n = x := fun z => h z.symm
      rw [h2]
      simp [h3]
theorem sc__has_number : FnScope ["house", "number", "other", "text"] ["house", "number"] (defScope s__has_number) := ⟨rfl, rfl, rfl, by decide +kernel, rfl, by decide +kernel, by decide +kernel⟩
theorem ok__has_number (T : Txt K mg ea) : Cl P w K mg base 1 "_has_number" (spHasNumber K) := by
  have nd := sc__has_number.nd
  refine cl_of T.d__has_number sc__has_number (fun vs H Q E h => ?_) (fun f cdv A outer s H vs Q E hr h => ?_)
  · obtain ⟨a, L, n, rfl, _⟩ := h
    rfl
  · obtain ⟨a, L, n, rfl, hA, hl, q⟩ := h
    refine ⟨_, (pss_one (ps_ret (pe_cmpR op_in_seq (pv 1) (pe_lc (own := [("other", 2), ("text", 3)]) (g := (gTup K 2 (gCons (gName 2) (gCons (gName 3) gNil)))) rfl nd (pi_list (pv 0)) (blkOk_by (own := [("other", 2), ("text", 3)]) (N := ["house", "number", "other", "text"]) (sc := defScope s__has_number) (by decide +kernel)) (fun _ _ _ _ _ => (pg_tup rfl (pgs_cons (pg_name (i := 2) nd rfl (.inl rfl)) (pgs_cons (pg_name (i := 3) nd rfl (.inl rfl)) pgs_nil)))) (fun _ _ _ _ _ => pts_nil) (fun _ _ _ _ _ => (pv 2))) (by rfl)))), ?_⟩
    refine ⟨_, rfl, _, rfl, a, rfl, ⟨_, hA.1⟩, fun D hD => ?_⟩
    refine lc_w (walk_list (xs := refs L)) hD (by show (L.map _).length ≤ _; rw [List.length_map]; omega) (fun H' e => e.seq hA.1) (fun i acc _ => acc = ((L.take i).map fun q => q.2.1).map V.int) (fun _ _ => rfl) (fun _ _ _ _ _ _ _ r => r) (fun i H x H' y => by rw [y.1]; exact Same.refl _) (fun i x acc H1 H2 Qn Qf hi sm y r at_ kn kf => ?_) (fun acc H1 sm at_ _ r => ?_)
    · obtain ⟨rfl, hx⟩ := y
      have hx2 : (L.map fun q => V.ref q.1)[i]? = some x := hx
      rw [List.getElem?_map] at hx2
      cases e : L[i]? with
      | none => rw [e] at hx2; cases hx2
      | some t =>
        rw [e] at hx2
        cases hx2
        have tm : t ∈ L := List.mem_of_getElem? e
        refine ⟨_, _, rfl, same_tup sm (hA.2 t tm), rfl, _, _, rfl, _, _, rfl, rfl, rfl, ?_⟩
        refine ⟨_, rfl, kn _ _ (Same.refl _) ?_⟩
        rw [r, List.take_add_one, List.map_append, List.map_append, e]
        rfl
    · have ll : (L.map fun q => V.ref q.1).length = L.length := List.length_map ..
      have r2 : acc = (L.map fun q => q.2.1).map V.int := by
        rw [r, List.take_of_length_le (by show L.length ≤ (L.map _).length; rw [ll]; exact Nat.le_refl _)]
      refine ⟨D, acc, rfl, .inl (.inl (.inl at_)), rfl, ?_, ?_⟩
      · rw [r2]
        simp [flatV]
      · have := q H1 sm
        rw [r2, if_neg Bool.false_ne_true, inV_ints]
        exact this
/-- an error of the class at C with this number leaves -/
def Errs (E : XK) (H : Hp) (C : Addr) (n : Int) : Prop := ∀ (d : Addr) (H2 : Hp), Same H H2 → H d = none → H2 d = some (.xd [(("at" : Str), .int n)]) → E (.ref C) (some d) H2
def spIsHouse (K : PySem.W.Frag) : Sp := fun vs H Q _ => ∃ (a : Addr) (L : PL), vs = [.ref a] ∧ HsAt K H a L ∧ L.length ≤ 1000 ∧ (∀ q ∈ L, q.2.2.length ≤ 1000) ∧ ∀ H', Same H H' → Q (.bl (isH (L.map (·.2)))) H'
theorem refs_len (L : PL) : (refs L).length = L.length := List.length_map ..
theorem refs_at {L : PL} {i : Nat} {x : V} (h : (refs L)[i]? = some x) : ∃ t, L[i]? = some t ∧ t ∈ L ∧ x = .ref t.1 := by
  unfold refs at h
  rw [List.getElem?_map] at h
  cases e : L[i]? with
  | none => rw [e] at h; cases h
  | some t =>
    rw [e] at h
    cases h
    exact ⟨t, rfl, List.mem_of_getElem? e, rfl⟩
theorem drop_at {α : Type} {l : List α} {i : Nat} {x : α} (h : l[i]? = some x) : l.drop i = x :: l.drop (i + 1) := by
  obtain ⟨hi, e⟩ := List.getElem?_eq_some_iff.mp h
  rw [List.drop_eq_getElem_cons hi, e]
theorem sc_is_house : FnScope ["house", "before", "number", "text"] ["house"] (defScope s_is_house) := ⟨rfl, rfl, rfl, by decide +kernel, rfl, by decide +kernel, by decide +kernel⟩
theorem ok_is_house (T : Txt K mg ea) (c__is_text : Cl P w K mg base 2 "_is_text" spIsText) : Cl P w K mg base 3 "is_house" (spIsHouse K) := by
  have nd := sc_is_house.nd
  refine cl_of T.d_is_house sc_is_house (fun vs H Q E h => ?_) (fun f cdv A outer s H vs Q E hr h => ?_)
  · obtain ⟨a, L, rfl, _⟩ := h
    rfl
  · obtain ⟨a, L, rfl, hA, hl, hz, q⟩ := h
    refine ⟨_, (pss_cons (ps_if (pt_cmpR op_gt (pe_callB call_len_seq (by rfl) T.b_len PySem.boot_len (pa_cons (pv 0) pa_nil)) (pe_k T.m__MOST_TEXTS) (nomark _))
        (pss_one (ps_ret pe_bl))
        pss_nil)
      (pss_cons (ps_set (i := 1) nd rfl (.inl rfl) (pe_un un_neg pe_int))
      (pss_cons (ps_for PassesOwn.never rfl (pi_list (pv 0)) (pg_tup rfl (pgs_cons (pg_name (i := 2) nd rfl (.inl rfl)) (pgs_cons (pg_name (i := 3) nd rfl (.inl rfl)) pgs_nil)))
        (pss_cons (ps_if (pt_not (pt_chain op_lt op_le (pv 1) (pv 2) (pe_k T.m__GREATEST_NUMBER)))
            (pss_one (ps_ret pe_bl))
            pss_nil)
          (pss_cons (ps_if (pt_not (pt_val (C8.pe_c c__is_text hr (by decide) (by rfl) (pa_cons (pv 3) pa_nil))))
            (pss_one (ps_ret pe_bl))
            pss_nil)
          (pss_one (ps_set (i := 1) nd rfl (.inl rfl) (pv 2))))))
      (pss_one (ps_ret pe_bl))))), ?_⟩
    have rl := refs_len L
    refine ⟨_, rfl, a, _, rfl, .inl hA.1, _, _, rfl, rfl, _, rfl, ite2 (fun e => ?_) (fun e => ?_)⟩
    · have e1 := of_decide_eq_true e
      have := q H (Same.refl H)
      have e2 : isH (L.map (·.2)) = false := by
        unfold isH
        rw [decide_eq_false (by rw [List.length_map]; omega)]
        rfl
      rw [e2] at this
      exact this
    · have e1 : ¬ (8 : Int) < ((refs L).length : Int) := fun z => e (decide_eq_true z)
      have eH : isH (L.map (·.2)) = chk (-1) (L.map (·.2)) := by
        unfold isH
        rw [decide_eq_true (by rw [List.length_map]; omega)]
        rfl
      refine ⟨1, rfl, _, rfl, a, rfl, ⟨_, hA.1⟩, ?_⟩
      refine for_list (K := K) (a := a) (xs := refs L) (fun i σ H' => ∃ (b : Int) (y2 y3 : Option V), σ = [some (.ref a), some (.int b), y2, y3] ∧ Same H H' ∧ isH (L.map (·.2)) = chk b ((L.drop i).map (·.2)))
        ⟨-1, none, none, rfl, Same.refl H, eH⟩ (fun i σ H' _ hW => ?_) (fun i x σ H' hx hW => ?_) (fun σ H' hW => ?_)
      · obtain ⟨b, y2, y3, rfl, sm, _⟩ := hW
        exact sm.seq hA.1
      · obtain ⟨b, y2, y3, rfl, sm, ec⟩ := hW
        obtain ⟨t, ht, tm, rfl⟩ := refs_at hx
        rw [drop_at ht] at ec
        have ec2 : isH (L.map (·.2)) = (decide (b < t.2.1) && decide (t.2.1 ≤ 99) && isTxt t.2.2 && chk t.2.1 ((L.drop (i + 1)).map (·.2))) := ec
        refine ⟨_, _, rfl, same_tup sm (hA.2 t tm), rfl, _, _, rfl, _, _, rfl, rfl, ?_⟩
        have no : ∀ H2, Same H H2 → isH (L.map (·.2)) = false → Q (.bl false) H2 := fun H2 s2 z => by
          have := q H2 s2
          rw [z] at this
          exact this
        refine ⟨_, rfl, _, rfl, _, _, rfl, rfl, _, rfl, ite2 (fun e2 => ?_) (fun e2 => ?_)⟩
        · refine ⟨_, _, rfl, rfl, _, rfl, ?_⟩
          by_cases e3 : t.2.1 ≤ 99
          · rw [decide_eq_true e3]
            -- the text
            refine ⟨_, rfl, t.2.2, rfl, hz t tm, fun H2 s2 => ?_⟩
            refine ⟨_, rfl, ?_⟩
            rw [e2, decide_eq_true e3, Bool.true_and, Bool.true_and] at ec2
            cases et : isTxt t.2.2 with
            | true =>
              rw [et, Bool.true_and] at ec2
              exact ⟨_, rfl, t.2.1, _, _, rfl, sm.trans s2, ec2⟩
            | false =>
              rw [et] at ec2
              exact no H2 (sm.trans s2) ec2
          · rw [decide_eq_false e3]
            rw [decide_eq_false e3, Bool.and_false, Bool.false_and, Bool.false_and] at ec2
            exact no H' sm ec2
        · refine ⟨_, rfl, ?_⟩
          have e2' : decide (b < t.2.1) = false := by simpa using e2
          rw [e2', Bool.false_and, Bool.false_and, Bool.false_and] at ec2
          exact no H' sm ec2
      · obtain ⟨b, y2, y3, rfl, sm, ec⟩ := hW
        rw [List.drop_of_length_le (by rw [rl]; exact Nat.le_refl _)] at ec
        have := q H' sm
        rw [ec] at this
        exact this
/-- the text with a number -/
def fnd (n : Int) : List (Int × Str) → Option Str
  | [] => none
  | q :: r => if q.1 = n then some q.2 else fnd n r
def spTextOf (K : PySem.W.Frag) (ea : Ea) : Sp := fun vs H Q E => ∃ (a : Addr) (L : PL) (n : Int), vs = [.ref a, .int n] ∧ HsAt K H a L ∧ Small n ∧ (∀ z, fnd n (L.map (·.2)) = some z → Q (.str z) H) ∧ (fnd n (L.map (·.2)) = none → Errs E H ea.c_NoText n)
theorem sc_text_of : FnScope ["house", "number", "other", "text"] ["house", "number"] (defScope s_text_of) := ⟨rfl, rfl, rfl, by decide +kernel, rfl, by decide +kernel, by decide +kernel⟩
theorem ok_text_of (T : Txt K mg ea) : ClX P w K mg base 3 "text_of" (spTextOf K ea) := by
  have nd := sc_text_of.nd
  refine clx_of T.d_text_of sc_text_of (fun vs H Q E h => ?_) (fun f cdv A outer s H vs Q E hr h => ?_)
  · obtain ⟨a, L, n, rfl, _⟩ := h
    rfl
  · obtain ⟨a, L, n, rfl, hA, hs, q, e⟩ := h
    refine ⟨_, (pss_cons (ps_for (passes_of rfl) rfl (pi_list (pv 0)) (pg_tup rfl (pgs_cons (pg_name (i := 2) nd rfl (.inl rfl)) (pgs_cons (pg_name (i := 3) nd rfl (.inl rfl)) pgs_nil)))
        (pss_one (ps_if (pt_cmpR op_eq (pv 2) (pv 1) (nomark _))
            (pss_one (ps_ret (pv 3)))
            pss_nil)))
      (pss_one (ps_raise rfl (takes_of rfl rfl rfl rfl) (pmk_at T.x_NoText (ok_init T) hr (by decide) (by rfl) (pa_cons (pv 1) pa_nil))))), ?_⟩
    refine ⟨_, rfl, a, rfl, ⟨_, hA.1⟩, ?_⟩
    refine for_list (K := K) (a := a) (xs := refs L) (fun i σ H' => ∃ (y2 y3 : Option V), σ = [some (.ref a), some (.int n), y2, y3] ∧ H' = H ∧ fnd n (L.map (·.2)) = fnd n ((L.drop i).map (·.2)))
      ⟨none, none, rfl, rfl, rfl⟩ (fun i σ H' _ hW => ?_) (fun i x σ H' hx hW => ?_) (fun σ H' hW => ?_)
    · obtain ⟨y2, y3, rfl, rfl, _⟩ := hW
      exact hA.1
    · obtain ⟨y2, y3, rfl, rfl, ef⟩ := hW
      obtain ⟨t, ht, tm, rfl⟩ := refs_at hx
      rw [drop_at ht] at ef
      have ef2 : fnd n (L.map (·.2)) = if t.2.1 = n then some t.2.2 else fnd n ((L.drop (i + 1)).map (·.2)) := ef
      refine ⟨_, _, rfl, hA.2 t tm, rfl, _, _, rfl, _, _, rfl, rfl, ?_⟩
      refine ⟨_, rfl, _, rfl, rfl, _, rfl, ite2 (fun e2 => ?_) (fun e2 => ?_)⟩
      · have e3 : t.2.1 = n := by have := of_decide_eq_true e2; injection this
        rw [if_pos e3] at ef2
        exact ⟨_, rfl, q _ ef2⟩
      · have e3 : ¬ t.2.1 = n := fun z => e2 (decide_eq_true (by rw [z]))
        rw [if_neg e3] at ef2
        exact ⟨_, _, rfl, rfl, ef2⟩
    · obtain ⟨y2, y3, rfl, rfl, ef⟩ := hW
      rw [List.drop_of_length_le (by rw [refs_len]; exact Nat.le_refl _)] at ef
      refine ⟨_, rfl, ?_⟩
      exact mk_at T.x_NoText.o T.x_NoText.no hs (e ef)
/-- a new house is handed back: a new list p of pairs, as pure data h -/
def NewHs (K : PySem.W.Frag) (Q : VK) (H : Hp) (h : List (Int × Str)) : Prop := ∀ (p : Addr) (L' : PL) (H' : Hp), Same H H' → H p = none → H' p = some (.lst (refs L')) → PairsAt K H' L' → L'.map (·.2) = h → Q (.ref p) H'
/-- with a pair more, in its place -/
def ins (n : Int) (z : Str) (h : List (Int × Str)) : List (Int × Str) := h.filter (fun q => decide (q.1 < n)) ++ [(n, z)] ++ h.filter (fun q => decide (n < q.1))
theorem asc_uniq : ∀ {l m : List (Int × Str)}, l.Perm m → l.Pairwise (fun q r => q.1 < r.1) → m.Pairwise (fun q r => q.1 < r.1) → l = m
  | [], m, p, _, _ => (List.Perm.eq_nil p.symm).symm
  | x :: l, [], p, _, _ => absurd p.length_eq (by simp)
  | x :: l, y :: m, p, hl, hm => by
    rw [List.pairwise_cons] at hl hm
    have e : x = y := by
      rcases List.mem_cons.mp (p.mem_iff.mp (List.mem_cons_self ..)) with e | hx
      · exact e
      · rcases List.mem_cons.mp (p.mem_iff.mpr (List.mem_cons_self ..)) with e | hy
        · exact e.symm
        · have a := hm.1 x hx
          have b := hl.1 y hy
          omega
    subst e
    rw [asc_uniq p.cons_inv hl.2 hm.2]
theorem ins_perm {n : Int} {z : Str} : ∀ {h : List (Int × Str)}, n ∉ h.map (·.1) → (ins n z h).Perm (h ++ [(n, z)])
  | [], _ => List.Perm.refl _
  | q :: r, hn => by
    rw [List.map_cons, List.mem_cons, not_or] at hn
    have ih := ins_perm (z := z) hn.2
    unfold ins at ih ⊢
    by_cases h1 : q.1 < n
    · rw [List.filter_cons_of_pos (by simpa using h1), List.filter_cons_of_neg (by simp; omega)]
      exact ih.cons q
    · rw [List.filter_cons_of_neg (by simpa using h1), List.filter_cons_of_pos (by simp; omega)]
      have p1 := List.perm_middle (a := q) (l₁ := r.filter (fun q => decide (q.1 < n)) ++ [(n, z)]) (l₂ := r.filter (fun q => decide (n < q.1)))
      exact p1.trans (ih.cons q)
theorem ins_asc {n : Int} {z : Str} {h : List (Int × Str)} (a : h.Pairwise (fun q r => q.1 < r.1)) : (ins n z h).Pairwise (fun q r => q.1 < r.1) := by
  unfold ins
  rw [List.pairwise_append, List.pairwise_append]
  refine ⟨⟨a.filter _, by simp, fun x hx y hy => ?_⟩, a.filter _, fun x hx y hy => ?_⟩
  · have h1 := (List.mem_filter.mp hx).2
    rw [List.mem_singleton.mp hy]
    simpa using h1
  · have h2 := (List.mem_filter.mp hy).2
    have h2' : n < y.1 := by simpa using h2
    rcases List.mem_append.mp hx with m | m
    · have h1 := (List.mem_filter.mp m).2
      have h1' : x.1 < n := by simpa using h1
      omega
    · rw [List.mem_singleton.mp m]
      exact h2'
theorem IsHs.pw {m : Nat} {h : List (Int × Str)} (a : IsHs m h) : h.Pairwise (fun q r => q.1 < r.1) := List.pairwise_map.mp a.asc
def spWithText (K : PySem.W.Frag) (ea : Ea) : Sp := fun vs H Q E => ∃ (a : Addr) (L : PL) (n : Int) (z : Str), vs = [.ref a, .int n, .str z] ∧ HsAt K H a L ∧ L.length ≤ 1000 ∧ IsHs 40 (L.map (·.2)) ∧ Small n ∧ z.length ≤ 1000 ∧
  (¬ (0 ≤ n ∧ n ≤ 99) → Errs E H ea.c_OutOfRange n) ∧ ((0 ≤ n ∧ n ≤ 99) → n ∈ L.map (fun q => q.2.1) → Errs E H ea.c_TakenNumber n) ∧
  ((0 ≤ n ∧ n ≤ 99) → n ∉ L.map (fun q => q.2.1) → isTxt z = false → Errs E H ea.c_BadText n) ∧ ((0 ≤ n ∧ n ≤ 99) → n ∉ L.map (fun q => q.2.1) → isTxt z = true → 8 ≤ L.length → Errs E H ea.c_TooMany n) ∧
  ((0 ≤ n ∧ n ≤ 99) → n ∉ L.map (fun q => q.2.1) → isTxt z = true → L.length < 8 → NewHs K Q H (ins n z (L.map (·.2))))
theorem Errs.same {E : XK} {H H' : Hp} {C : Addr} {n : Int} (s : Same H H') (h : Errs E H C n) : Errs E H' C n := fun d H2 s2 nd e => h d H2 (s.trans s2) (s.free nd) e
theorem sc_with_text : FnScope ["house", "number", "text"] ["house", "number", "text"] (defScope s_with_text) := ⟨rfl, rfl, rfl, by decide +kernel, rfl, by decide +kernel, by decide +kernel⟩
theorem ok_with_text (T : Txt K mg ea) (c__has_number : Cl P w K mg base 1 "_has_number" (spHasNumber K)) (c__is_text : Cl P w K mg base 2 "_is_text" spIsText) : ClX P w K mg base 3 "with_text" (spWithText K ea) := by
  have nd := sc_with_text.nd
  refine clx_of T.d_with_text sc_with_text (fun vs H Q E h => ?_) (fun f cdv A outer s H vs Q E hr h => ?_)
  · obtain ⟨a, L, n, z, rfl, _⟩ := h
    rfl
  · obtain ⟨a, L, n, z, rfl, hA, hl, hh, hs, hz, q1, q2, q3, q4, q5⟩ := h
    refine ⟨_, (pss_cons (ps_if (pt_not (pt_chain op_le op_le pe_int (pv 1) (pe_k T.m__GREATEST_NUMBER)))
        (pss_one (ps_raise rfl (takes_of rfl rfl rfl rfl) (pmk_at T.x_OutOfRange (ok_init T) hr (by decide) (by rfl) (pa_cons (pv 1) pa_nil))))
        pss_nil)
      (pss_cons (ps_if (pt_val (C8.pe_c c__has_number hr (by decide) (by rfl) (pa_cons (pv 0) (pa_cons (pv 1) pa_nil))))
        (pss_one (ps_raise rfl (takes_of rfl rfl rfl rfl) (pmk_at T.x_TakenNumber (ok_init T) hr (by decide) (by rfl) (pa_cons (pv 1) pa_nil))))
        pss_nil)
      (pss_cons (ps_if (pt_not (pt_val (C8.pe_c c__is_text hr (by decide) (by rfl) (pa_cons (pv 2) pa_nil))))
        (pss_one (ps_raise rfl (takes_of rfl rfl rfl rfl) (pmk_at T.x_BadText (ok_init T) hr (by decide) (by rfl) (pa_cons (pv 1) pa_nil))))
        pss_nil)
      (pss_cons (ps_if (pt_cmpR op_ge (pe_callB call_len_seq (by rfl) T.b_len PySem.boot_len (pa_cons (pv 0) pa_nil)) (pe_k T.m__MOST_TEXTS) (nomark _))
        (pss_one (ps_raise rfl (takes_of rfl rfl rfl rfl) (pmk_at T.x_TooMany (ok_init T) hr (by decide) (by rfl) (pa_cons (pv 1) pa_nil))))
        pss_nil)
      (pss_one (ps_ret (pe_callB cr_sortNT (by rfl) T.b_sorted (by decide +kernel) (pa_cons (pe_lst (StX.pa_star (pv 0) (pa_cons (pe_tup (pa_cons (pv 1) (pa_cons (pv 2) pa_nil))) pa_nil))) pa_nil)))))))), ?_⟩
    refine ⟨_, rfl, _, _, rfl, rfl, _, rfl, ite2 (fun e1 => ?_) (fun e1 => ?_)⟩
    · have n0 := of_decide_eq_true e1
      refine ⟨_, _, rfl, rfl, _, rfl, ?_⟩
      by_cases n1 : n ≤ 99
      · rw [decide_eq_true n1]
        have nn : 0 ≤ n ∧ n ≤ 99 := ⟨n0, n1⟩
        refine ⟨_, rfl, _, rfl, a, L, n, rfl, hA, hl, fun H1 s1 => ⟨_, rfl, ite2 (fun e2 => ?_) (fun e2 => ?_)⟩⟩
        · exact ⟨_, rfl, mk_at T.x_TakenNumber.o T.x_TakenNumber.no hs ((q2 nn (of_decide_eq_true e2)).same s1)⟩
        · have n2 : n ∉ L.map (fun q => q.2.1) := fun z => e2 (decide_eq_true z)
          refine ⟨_, rfl, z, rfl, hz, fun H2 s2 => ⟨_, rfl, ?_⟩⟩
          have s12 := s1.trans s2
          cases et : isTxt z with
          | false => exact ⟨_, rfl, mk_at T.x_BadText.o T.x_BadText.no hs ((q3 nn n2 et).same s12)⟩
          | true =>
            refine ⟨_, rfl, a, _, rfl, .inl (s12.seq hA.1), _, _, rfl, rfl, _, rfl, ite2 (fun e3 => ?_) (fun e3 => ?_)⟩
            · have := of_decide_eq_true e3
              exact ⟨_, rfl, mk_at T.x_TooMany.o T.x_TooMany.no hs ((q4 nn n2 et (by have := refs_len L; omega)).same s12)⟩
            · have l8 : L.length < 8 := by
                have : ¬ (8 : Int) ≤ ((refs L).length : Int) := fun z => e3 (decide_eq_true z)
                have := refs_len L
                omega
              refine ⟨_, rfl, a, _, rfl, .inr (s12.seq hA.1), _, rfl, _, rfl, (by show 2 ≤ sizeLine; decide), fun t ht => ?_⟩
              have s3 : Same H2 (upd H2 t (.tup [.int n, .str z])) := same_new ht
              refine ⟨?_, fun l hl2 => ?_⟩
              · rw [List.length_append]
                have := refs_len L
                exact Nat.le_trans (by simp; omega : _ ≤ 1001) (by decide)
              have s4 := s3.trans (same_new (o := .lst (refs L ++ [V.ref t])) hl2)
              have hp : PairsAt K (upd (upd H2 t (.tup [.int n, .str z])) l (.lst (refs L ++ [V.ref t]))) (L ++ [(t, n, z)]) := fun q hq => by
                rcases List.mem_append.mp hq with m | m
                · exact same_tup (s12.trans s4) (hA.2 q m)
                · rw [List.mem_singleton.mp m]
                  exact same_tup (same_new hl2) (.inl (.inl upd_same))
              have hpw := hh.pw
              refine ⟨l, L ++ [(t, n, z)], rfl, ⟨.inl (.inl ?_), hp⟩, ?_, fun L' p perm srt np => ?_⟩
              · rw [upd_same]
                unfold refs
                rw [List.map_append]
                rfl
              · -- one number, one text
                have asc2 : ((L ++ [(t, n, z)]).map (·.2)).Pairwise (fun q r => q.1 ≠ r.1) := by
                  rw [List.map_append, List.pairwise_append]
                  refine ⟨hpw.imp (fun h e => by omega), by simp, fun x hx y hy e => ?_⟩
                  simp at hy
                  subst hy
                  refine n2 ?_
                  obtain ⟨q, hq, rfl⟩ := List.mem_map.mp hx
                  exact List.mem_map.mpr ⟨q, hq, e⟩
                intro q hq r hr e
                refine Decidable.byContradiction fun ne => ?_
                rw [List.pairwise_map] at asc2
                have key : ∀ {M : PL}, M.Pairwise (fun q r => q.2.1 ≠ r.2.1) → q ∈ M → r ∈ M → q.2.2 = r.2.2 := by
                  intro M
                  induction M with
                  | nil => intro _ m; cases m
                  | cons x M ih =>
                    intro pw mq mr
                    rw [List.pairwise_cons] at pw
                    rcases List.mem_cons.mp mq with e1 | m1 <;> rcases List.mem_cons.mp mr with e2 | m2
                    · rw [e1, e2]
                    · exact absurd (e1 ▸ e) (pw.1 r m2)
                    · exact absurd (e2 ▸ e).symm (pw.1 q m1)
                    · exact ih pw.2 m1 m2
                exact ne (key asc2 hq hr)
              · refine q5 nn n2 et l8 p L' _ ((s12.trans s4).trans (same_new np)) ((s12.trans s4).free np) upd_same ?_ ?_
                · exact fun q hq => same_tup (same_new np) (hp q (perm.mem_iff.mp hq))
                · have nmem : n ∉ (L.map (·.2)).map (·.1) := by rw [List.map_map]; exact n2
                  have p2 : (L'.map (·.2)).Perm (ins n z (L.map (·.2))) := by
                    have := perm.map (fun q : Addr × Int × Str => q.2)
                    rw [List.map_append] at this
                    exact this.trans (ins_perm nmem).symm
                  refine asc_uniq p2 ?_ (ins_asc hpw)
                  -- sorted, and no number twice
                  have nodup : (L'.map (·.2)).Pairwise (fun q r => q.1 ≠ r.1) := p2.pairwise_iff (fun h e => h e.symm) |>.mpr ((ins_asc hpw).imp fun h e => by omega)
                  have srt2 : (L'.map (·.2)).Pairwise (fun q r => q.1 ≤ r.1) := List.pairwise_map.mpr srt
                  exact (nodup.and srt2).imp fun h => by have := h.1; have := h.2; omega
      · rw [decide_eq_false n1]
        exact ⟨_, rfl, mk_at T.x_OutOfRange.o T.x_OutOfRange.no hs (q1 (fun z => n1 z.2))⟩
    · have n0 : ¬ 0 ≤ n := fun z => e1 (decide_eq_true z)
      refine ⟨_, rfl, ?_⟩
      exact ⟨_, rfl, mk_at T.x_OutOfRange.o T.x_OutOfRange.no hs (q1 (fun z => n0 z.1))⟩
def spWithout (K : PySem.W.Frag) (ea : Ea) : Sp := fun vs H Q E => ∃ (a : Addr) (L : PL) (n : Int), vs = [.ref a, .int n] ∧ HsAt K H a L ∧ L.length ≤ 1000 ∧ Small n ∧
  (n ∉ L.map (fun q => q.2.1) → Errs E H ea.c_NoText n) ∧ (n ∈ L.map (fun q => q.2.1) → NewHs K Q H ((L.map (·.2)).filter fun q => decide (q.1 ≠ n)))
theorem sc_without_text : FnScope ["house", "number", "other", "text"] ["house", "number"] (defScope s_without_text) := ⟨rfl, rfl, rfl, by decide +kernel, rfl, by decide +kernel, by decide +kernel⟩
theorem ok_without_text (T : Txt K mg ea) (c__has_number : Cl P w K mg base 1 "_has_number" (spHasNumber K)) : ClX P w K mg base 3 "without_text" (spWithout K ea) := by
  have nd := sc_without_text.nd
  refine clx_of T.d_without_text sc_without_text (fun vs H Q E h => ?_) (fun f cdv A outer s H vs Q E hr h => ?_)
  · obtain ⟨a, L, n, rfl, _⟩ := h
    rfl
  · obtain ⟨a, L, n, rfl, hA, hl, hs, q1, q2⟩ := h
    refine ⟨_, (pss_cons (ps_if (pt_not (pt_val (C8.pe_c c__has_number hr (by decide) (by rfl) (pa_cons (pv 0) (pa_cons (pv 1) pa_nil)))))
        (pss_one (ps_raise rfl (takes_of rfl rfl rfl rfl) (pmk_at T.x_NoText (ok_init T) hr (by decide) (by rfl) (pa_cons (pv 1) pa_nil))))
        pss_nil)
      (pss_one (ps_ret (pe_lc (own := [("other", 2), ("text", 3)]) (g := (gTup K 2 (gCons (gName 2) (gCons (gName 3) gNil)))) rfl nd (pi_list (pv 0)) (blkOk_by (own := [("other", 2), ("text", 3)]) (N := ["house", "number", "other", "text"]) (sc := defScope s_without_text) (by decide +kernel)) (fun _ _ _ _ _ => (pg_tup rfl (pgs_cons (pg_name (i := 2) nd rfl (.inl rfl)) (pgs_cons (pg_name (i := 3) nd rfl (.inl rfl)) pgs_nil)))) (fun _ _ _ _ _ => pts_one (pt_cmpR op_ne (pv 2) (pv 1) (nomark _))) (fun _ _ _ _ _ => (pe_tup (pa_cons (pv 2) (pa_cons (pv 3) pa_nil)))))))), ?_⟩
    refine ⟨_, rfl, _, rfl, a, L, n, rfl, hA, hl, fun H1 s1 => ⟨_, rfl, ?_⟩⟩
    by_cases hn : n ∈ L.map (fun q => q.2.1)
    · rw [decide_eq_true hn]
      refine ⟨_, rfl, a, rfl, ⟨_, s1.seq hA.1⟩, fun D hD => ?_⟩
      refine lc_w (walk_list (xs := refs L)) hD (by rw [refs_len]; omega) (fun H' e => (s1.trans e).seq hA.1) (fun i acc H' => ∃ L' : PL, acc = refs L' ∧ PairsAt K H' L' ∧ L'.map (·.2) = ((L.take i).map (·.2)).filter fun q => decide (q.1 ≠ n))
        (fun _ _ => ⟨[], rfl, (fun q hq => by cases hq), rfl⟩) (fun i acc H2 H3 l hl e r => ?_) (fun i H x H' y => by rw [y.1]; exact Same.refl _) (fun i x acc H2 H3 Qn Qf hi sm y r at_ kn kf => ?_) (fun acc H2 sm at_ _ r => ?_)
      · obtain ⟨L', e1, e2, e3⟩ := r
        exact ⟨L', e1, but_pairs hl e e2, e3⟩
      · obtain ⟨rfl, hx⟩ := y
        obtain ⟨t, ht, tm, rfl⟩ := refs_at hx
        obtain ⟨L', e1, e2, e3⟩ := r
        have tk : (L.take (i + 1)).map (·.2) = (L.take i).map (·.2) ++ [t.2] := by rw [List.take_add_one, ht, List.map_append]; rfl
        refine ⟨_, _, rfl, same_tup (s1.trans sm) (hA.2 t tm), rfl, _, _, rfl, _, _, rfl, rfl, rfl, ?_⟩
        refine ⟨_, rfl, _, rfl, rfl, _, rfl, ite2 (fun e => ?_) (fun e => ?_)⟩
        · have ne : t.2.1 ≠ n := fun z => by rw [z] at e; simp at e
          refine ⟨_, rfl, _, rfl, (by show 2 ≤ sizeLine; decide), fun u hu => ?_⟩
          refine kn _ _ (same_new hu) ⟨L' ++ [(u, t.2)], ?_, ?_, ?_⟩
          · rw [e1]; unfold refs; rw [List.map_append]; rfl
          · intro q hq
            rcases List.mem_append.mp hq with m | m
            · exact same_tup (same_new hu) (e2 q m)
            · rw [List.mem_singleton.mp m]; exact .inl (.inl upd_same)
          · rw [List.map_append, e3, tk, List.filter_append, List.filter_cons_of_pos (by simpa using ne)]
            rfl
        · have eq : t.2.1 = n := by
            refine Decidable.byContradiction fun ne => e ?_
            have : ¬ V.int t.2.1 = V.int n := fun z => ne (by injection z)
            rw [decide_eq_false this]
            rfl
          refine kf _ (Same.refl _) ⟨L', e1, e2, ?_⟩
          rw [tk, List.filter_append, e3, List.filter_cons_of_neg (by simp [eq])]
          simp
      · obtain ⟨L', e1, e2, e3⟩ := r
        refine q2 hn D L' H2 (s1.trans sm) (s1.free hD) (by rw [at_, e1]) e2 ?_
        rw [e3, List.take_of_length_le (by rw [refs_len]; exact Nat.le_refl _)]
    · rw [decide_eq_false hn]
      exact ⟨_, rfl, mk_at T.x_NoText.o T.x_NoText.no hs ((q1 hn).same s1)⟩
end

end SH
set_option Elab.async false
set_option linter.all false
set_option maxRecDepth 100000
set_option maxHeartbeats 4000000
namespace SH
open PySem PySem.Spec PyProof.Rows L2
section
variable {P : Program} {w : World} {K : PySem.W.Frag} {mg : Str → Option Value} {base : Heap} {ea : Ea}
/-- what is due of the three -/
def dueOf (h : List (Int × Str)) (n : Int) (z : Str) (word : Int) : Str × PyData :=
  if word = 0 then (match fnd n h with | some x => (("text" : Str), PyData.str x) | none => (("none" : Str), PyData.int n))
  else if word = 2 then (if n ∈ h.map (·.1) then (("house" : Str), dH (h.filter fun q => decide (q.1 ≠ n))) else (("none" : Str), PyData.int n))
  else if ¬ (0 ≤ n ∧ n ≤ 99) then (("range" : Str), PyData.int n) else if n ∈ h.map (·.1) then (("taken" : Str), PyData.int n) else if isTxt z = false then (("bad" : Str), PyData.int n)
  else if 8 ≤ h.length then (("many" : Str), PyData.int n) else (("house" : Str), dH (ins n z h))
/-- a tag and a thing are handed back; the thing of a house is a new list -/
def Told (K : PySem.W.Frag) (H H' : Hp) (v : V) (p : Str × PyData) : Prop := ∃ (t : Addr) (x : V), v = .ref t ∧ H' t = some (.tup [.str p.1, x]) ∧ Dp K H' x p.2 ∧ (p.1 = "house" → ∃ (l : Addr) (xs : List V), x = .ref l ∧ H l = none ∧ H' l = some (.lst xs) ∧ xs.length ≤ 1000)
def spTold (K : PySem.W.Frag) : Sp := fun vs H Q _ => ∃ (a : Addr) (L : PL) (n : Int) (z : Str) (word : Int), vs = [.ref a, .int n, .str z, .int word] ∧ HsAt K H a L ∧ L.length ≤ 8 ∧ IsHs 40 (L.map (·.2)) ∧ Small n ∧ z.length ≤ 1000 ∧ 0 ≤ word ∧ word ≤ 2 ∧
  ∀ (v : V) (H' : Hp), Same H H' → Told K H H' v (dueOf (L.map (·.2)) n z word) → Q v H'
theorem told_int {H H' : Hp} {t : Addr} {s : Str} {n : Int} (hs : s ≠ "house") : Told K H (upd H' t (.tup [.str s, .int n])) (.ref t) (s, .int n) := ⟨t, .int n, rfl, upd_same, .int n, fun z => absurd z hs⟩
theorem told_house {H H' : Hp} {l t : Addr} {L' : PL} (np : H l = none) (at_ : H' l = some (.lst (refs L'))) (hp : PairsAt K H' L') (nt : H' t = none) (hl : L'.length ≤ 1000) : Told K H (upd H' t (.tup [.str "house", .ref l])) (.ref t) ("house", dH (L'.map (·.2))) := by
  have s := same_new (o := .tup [.str "house", .ref l]) nt
  refine ⟨t, .ref l, rfl, upd_same, dp_house ⟨.inl (.inl (s _ _ at_)), hp.same s⟩, fun _ => ⟨l, refs L', rfl, np, s _ _ at_, by rw [refs_len]; exact hl⟩⟩
theorem map_nums (L : PL) : (L.map (·.2)).map (·.1) = L.map fun q => q.2.1 := by rw [List.map_map]; rfl
theorem fnd_none {n : Int} : ∀ {h : List (Int × Str)}, n ∉ h.map (·.1) → fnd n h = none
  | [], _ => rfl
  | q :: r, a => by
    rw [List.map_cons, List.mem_cons, not_or] at a
    show (if q.1 = n then some q.2 else fnd n r) = none
    rw [if_neg (fun z => a.1 z.symm)]
    exact fnd_none a.2
theorem sc__law_told : FnScope ["house", "number", "text", "word", "e"] ["house", "number", "text", "word"] (defScope s__law_told) := ⟨rfl, rfl, rfl, by decide +kernel, rfl, by decide +kernel, by decide +kernel⟩
theorem ok__law_told (T : Txt K mg ea) (c_text_of : ClX P w K mg base 3 "text_of" (spTextOf K ea)) (c_with_text : ClX P w K mg base 3 "with_text" (spWithText K ea)) (c_without_text : ClX P w K mg base 3 "without_text" (spWithout K ea)) : Cl P w K mg base 4 "_law_told" (spTold K) := by
  have nd := sc__law_told.nd
  refine cl_of T.d__law_told sc__law_told (fun vs H Q E h => ?_) (fun f cdv A outer s H vs Q E hr h => ?_)
  · obtain ⟨a, L, n, z, word, rfl, _⟩ := h
    rfl
  · obtain ⟨a, L, n, z, word, rfl, hA, hl, hh, hs, hz, w0, w1, q⟩ := h
    refine ⟨_, (pss_one (ps_try_hds rfl rfl takes0 (fun W pn xe tk _ => (pss_cons (ps_if (pt_cmpR op_eq (pv 3) pe_int (nomark _))
            (pss_one (ps_ret (pe_tup (pa_cons pe_str (pa_cons (pe_cx c_text_of hr (by decide) (fun σ => passAt tk σ) (by rfl) (pa_cons (pv 0) (pa_cons (pv 1) pa_nil))) pa_nil)))))
            pss_nil)
          (pss_cons (ps_if (pt_cmpR op_eq (pv 3) pe_int (nomark _))
            (pss_one (ps_ret (pe_tup (pa_cons pe_str (pa_cons (pe_cx c_with_text hr (by decide) (fun σ => passAt tk σ) (by rfl) (pa_cons (pv 0) (pa_cons (pv 1) (pa_cons (pv 2) pa_nil)))) pa_nil)))))
            pss_nil)
          (pss_one (ps_ret (pe_tup (pa_cons pe_str (pa_cons (pe_cx c_without_text hr (by decide) (fun σ => passAt tk σ) (by rfl) (pa_cons (pv 0) (pa_cons (pv 1) pa_nil))) pa_nil))))))))
        (HdsN.named ⟨rfl, by decide, Or.inl T.x_OutOfRange.g⟩ nd (i := 4) rfl rfl (fun a o c d l hz hf => (pss_one (ps_ret (pe_tup (pa_cons pe_str (pa_cons (pe_xf T.x_OutOfRange.f T.x_OutOfRange.no hz hf (pv 4)) pa_nil))))))
        (HdsN.named ⟨rfl, by decide, Or.inl T.x_TakenNumber.g⟩ nd (i := 4) rfl rfl (fun a o c d l hz hf => (pss_one (ps_ret (pe_tup (pa_cons pe_str (pa_cons (pe_xf T.x_TakenNumber.f T.x_TakenNumber.no hz hf (pv 4)) pa_nil))))))
        (HdsN.named ⟨rfl, by decide, Or.inl T.x_BadText.g⟩ nd (i := 4) rfl rfl (fun a o c d l hz hf => (pss_one (ps_ret (pe_tup (pa_cons pe_str (pa_cons (pe_xf T.x_BadText.f T.x_BadText.no hz hf (pv 4)) pa_nil))))))
        (HdsN.named ⟨rfl, by decide, Or.inl T.x_TooMany.g⟩ nd (i := 4) rfl rfl (fun a o c d l hz hf => (pss_one (ps_ret (pe_tup (pa_cons pe_str (pa_cons (pe_xf T.x_TooMany.f T.x_TooMany.no hz hf (pv 4)) pa_nil))))))
        (HdsN.named ⟨rfl, by decide, Or.inl T.x_NoText.g⟩ nd (i := 4) rfl rfl (fun a o c d l hz hf => (pss_one (ps_ret (pe_tup (pa_cons pe_str (pa_cons (pe_xf T.x_NoText.f T.x_NoText.no hz hf (pv 4)) pa_nil))))))
        (HdsN.cons ⟨rfl, by decide, Or.inl T.x_HouseError.g⟩ (fun a o c d l hz hf => (pss_one (ps_ret (pe_tup (pa_cons pe_str (pa_cons pe_int pa_nil))))))
        HdsN.nil)))))))), ?_⟩
    have hm := map_nums L
    -- one of the errors, told
    have sz : 2 ≤ sizeLine := by decide
    refine ⟨_, rfl, rfl, _, rfl, ite2 (fun e => ?_) (fun e => ?_)⟩
    · -- text_of
      have ew : word = 0 := by have := of_decide_eq_true e; injection this
      subst ew
      have hd : dueOf (L.map (·.2)) n z 0 = (match fnd n (L.map (·.2)) with | some x => (("text" : Str), PyData.str x) | none => (("none" : Str), PyData.int n)) := if_pos rfl
      refine ⟨_, rfl, _, rfl, a, L, n, rfl, hA, hs, fun x hx => ⟨sz, fun t nt => ?_⟩, fun hx d H2 s2 nd2 e2 => ?_⟩
      · rw [hx] at hd
        have hd2 : dueOf (L.map (·.2)) n z 0 = (("text" : Str), PyData.str x) := hd
        refine q _ _ (same_new nt) ?_
        rw [hd2]
        exact ⟨t, .str x, rfl, upd_same, .str x, fun z => absurd (show ("text" : Str) = "house" from z) (by decide)⟩
      · rw [hx] at hd
        refine wHds_skip T.e_NoText_OutOfRange (wHds_skip T.e_NoText_TakenNumber (wHds_skip T.e_NoText_BadText (wHds_skip T.e_NoText_TooMany (wHds_take T.e_NoText_NoText fun a0 na => ?_))))
        refine ⟨_, rfl, rfl, rfl, d, _, _, rfl, e2, rfl, sz, fun t nt => q _ _ (s2.trans (same_new nt)) ?_⟩
        rw [hd]
        exact told_int (by decide)
    · refine ⟨_, rfl, rfl, _, rfl, ite2 (fun e2 => ?_) (fun e2 => ?_)⟩
      · -- with_text
        have ew : word = 1 := by have := of_decide_eq_true e2; injection this
        subst ew
        have hd : dueOf (L.map (·.2)) n z 1 = if ¬ (0 ≤ n ∧ n ≤ 99) then (("range" : Str), PyData.int n) else if n ∈ L.map (fun q => q.2.1) then (("taken" : Str), PyData.int n) else if isTxt z = false then (("bad" : Str), PyData.int n) else if 8 ≤ L.length then (("many" : Str), PyData.int n) else (("house" : Str), dH (ins n z (L.map (·.2)))) := by
          unfold dueOf
          rw [if_neg (by decide), if_neg (by decide), hm, List.length_map]
        refine ⟨_, rfl, _, rfl, _, rfl, a, L, n, z, rfl, hA, by omega, hh, hs, hz, fun c1 d H2 s2 nd2 e3 => ?_, fun c1 c2 d H2 s2 nd2 e3 => ?_, fun c1 c2 c3 d H2 s2 nd2 e3 => ?_, fun c1 c2 c3 c4 d H2 s2 nd2 e3 => ?_, fun c1 c2 c3 c4 l L' H2 s2 nl at_ hp hL => ⟨sz, fun t nt => ?_⟩⟩
        · rw [if_pos c1] at hd
          refine wHds_take T.e_OutOfRange_OutOfRange fun a0 na => ?_
          refine ⟨_, rfl, rfl, rfl, d, _, _, rfl, e3, rfl, sz, fun t nt => q _ _ (s2.trans (same_new nt)) ?_⟩
          rw [hd]
          exact told_int (by decide)
        · rw [if_neg (fun z => z c1), if_pos c2] at hd
          refine wHds_skip T.e_TakenNumber_OutOfRange (wHds_take T.e_TakenNumber_TakenNumber fun a0 na => ?_)
          refine ⟨_, rfl, rfl, rfl, d, _, _, rfl, e3, rfl, sz, fun t nt => q _ _ (s2.trans (same_new nt)) ?_⟩
          rw [hd]
          exact told_int (by decide)
        · rw [if_neg (fun z => z c1), if_neg c2, if_pos c3] at hd
          refine wHds_skip T.e_BadText_OutOfRange (wHds_skip T.e_BadText_TakenNumber (wHds_take T.e_BadText_BadText fun a0 na => ?_))
          refine ⟨_, rfl, rfl, rfl, d, _, _, rfl, e3, rfl, sz, fun t nt => q _ _ (s2.trans (same_new nt)) ?_⟩
          rw [hd]
          exact told_int (by decide)
        · rw [if_neg (fun z => z c1), if_neg c2, if_neg (by rw [c3]; decide), if_pos c4] at hd
          refine wHds_skip T.e_TooMany_OutOfRange (wHds_skip T.e_TooMany_TakenNumber (wHds_skip T.e_TooMany_BadText (wHds_take T.e_TooMany_TooMany fun a0 na => ?_)))
          refine ⟨_, rfl, rfl, rfl, d, _, _, rfl, e3, rfl, sz, fun t nt => q _ _ (s2.trans (same_new nt)) ?_⟩
          rw [hd]
          exact told_int (by decide)
        · rw [if_neg (fun z => z c1), if_neg c2, if_neg (by rw [c3]; decide), if_neg (by omega)] at hd
          refine q _ _ (s2.trans (same_new nt)) ?_
          have ll : L'.length ≤ 1000 := by
            have e := congrArg List.length hL
            unfold ins at e
            rw [List.length_map, List.length_append, List.length_append] at e
            have b1 := List.length_filter_le (fun q : Int × Str => decide (q.1 < n)) (L.map (·.2))
            have b2 := List.length_filter_le (fun q : Int × Str => decide (n < q.1)) (L.map (·.2))
            rw [List.length_map] at b1 b2
            rw [e]
            show _ + 1 + _ ≤ 1000
            omega
          rw [hd, ← hL]
          exact told_house nl at_ hp nt ll
      · -- without_text
        have ew : word = 2 := by
          have n0 : ¬ word = 0 := fun z => e (decide_eq_true (by rw [z]))
          have n1 : ¬ word = 1 := fun z => e2 (decide_eq_true (by rw [z]))
          omega
        subst ew
        have hd : dueOf (L.map (·.2)) n z 2 = if n ∈ L.map (fun q => q.2.1) then (("house" : Str), dH ((L.map (·.2)).filter fun q => decide (q.1 ≠ n))) else (("none" : Str), PyData.int n) := by
          unfold dueOf
          rw [if_neg (by decide), if_pos rfl, hm]
        refine ⟨_, rfl, _, rfl, a, L, n, rfl, hA, by omega, hs, fun c1 d H2 s2 nd2 e3 => ?_, fun c1 l L' H2 s2 nl at_ hp hL => ⟨sz, fun t nt => ?_⟩⟩
        · rw [if_neg c1] at hd
          refine wHds_skip T.e_NoText_OutOfRange (wHds_skip T.e_NoText_TakenNumber (wHds_skip T.e_NoText_BadText (wHds_skip T.e_NoText_TooMany (wHds_take T.e_NoText_NoText fun a0 na => ?_))))
          refine ⟨_, rfl, rfl, rfl, d, _, _, rfl, e3, rfl, sz, fun t nt => q _ _ (s2.trans (same_new nt)) ?_⟩
          rw [hd]
          exact told_int (by decide)
        · rw [if_pos c1] at hd
          refine q _ _ (s2.trans (same_new nt)) ?_
          have ll : L'.length ≤ 1000 := by
            have e := congrArg List.length hL
            rw [List.length_map] at e
            have b1 := List.length_filter_le (fun q : Int × Str => decide (q.1 ≠ n)) (L.map (·.2))
            rw [List.length_map] at b1
            omega
          rw [hd, ← hL]
          exact told_house nl at_ hp nt ll
/-- the texts that are tried: letters, or a newline among them -/
def Tryable (z : Str) : Prop := z.length ≤ 1000 ∧ isTxt z = (decide (z.length ≤ 40) && !decide (10 ∈ z.cps.toList)) ∧ PyData.strOk z = true
def Due (K : PySem.W.Frag) (H' : Hp) (v : V) (p : Str × PyData) : Prop := ∃ (t : Addr) (x : V), v = .ref t ∧ H' t = some (.tup [.str p.1, x]) ∧ Dp K H' x p.2
theorem Due.of {K : PySem.W.Frag} {H' : Hp} {v : V} {p q : Str × PyData} (e : p = q) (h : Due K H' v p) : Due K H' v q := e ▸ h
def spDue (K : PySem.W.Frag) : Sp := fun vs H Q _ => ∃ (a : Addr) (L : PL) (n : Int) (z : Str) (word : Int), vs = [.ref a, .int n, .str z, .int word] ∧ HsAt K H a L ∧ L.length ≤ 8 ∧ IsHs 40 (L.map (·.2)) ∧ Tryable z ∧ 0 ≤ word ∧ word ≤ 2 ∧
  ∀ (v : V) (H' : Hp), Same H H' → Due K H' v (dueOf (L.map (·.2)) n z word) → Q v H'
theorem fnd_some {n : Int} : ∀ {L : PL} {t : Addr × Int × Str} {r : PL}, L.filter (fun q => decide (q.2.1 = n)) = t :: r → fnd n (L.map (·.2)) = some t.2.2
  | [], _, _, h => by cases h
  | q :: L, t, r, h => by
    show (if q.2.1 = n then some q.2.2 else fnd n (L.map (·.2))) = _
    by_cases e : q.2.1 = n
    · rw [List.filter_cons_of_pos (by simpa using e)] at h
      rw [if_pos e, (List.cons.inj h).1]
    · rw [List.filter_cons_of_neg (by simpa using e)] at h
      rw [if_neg e]
      exact fnd_some h
theorem found_nil {n : Int} {L : PL} : L.filter (fun q => decide (q.2.1 = n)) = [] ↔ n ∉ L.map (fun q => q.2.1) := by
  rw [List.filter_eq_nil_iff]
  constructor
  · intro h m
    obtain ⟨q, hq, e⟩ := List.mem_map.mp m
    exact h q hq (by simpa using e)
  · intro h q hq e
    exact h (List.mem_map.mpr ⟨q, hq, by simpa using e⟩)
theorem sc__law_due : FnScope ["house", "number", "text", "word", "found", "pair", "p"] ["house", "number", "text", "word"] (defScope s__law_due) := ⟨rfl, rfl, rfl, by decide +kernel, rfl, by decide +kernel, by decide +kernel⟩
theorem ok__law_due (T : Txt K mg ea) : Cl P w K mg base 1 "_law_due" (spDue K) := by
  have nd := sc__law_due.nd
  refine cl_of T.d__law_due sc__law_due (fun vs H Q E h => ?_) (fun f cdv A outer s H vs Q E hr h => ?_)
  · obtain ⟨a, L, n, z, word, rfl, _⟩ := h
    rfl
  · obtain ⟨a, L, n, z, word, rfl, hA, hl, hh, ⟨hz, ht, _⟩, w0, w1, q⟩ := h
    refine ⟨_, (pss_cons (ps_setLc (i := 4) (own := [("pair", 5)]) (g := (gName 5)) rfl nd rfl rfl (sw_true rfl rfl rfl (by decide +kernel)) (pi_list (pv 0)) (blkOk_by (own := [("pair", 5)]) (N := ["house", "number", "text", "word", "found", "pair", "p"]) (sc := defScope s__law_due) (by decide +kernel)) (fun _ _ _ _ _ => (pg_name (i := 5) nd rfl (.inl rfl))) (fun _ _ _ _ _ => pts_one (pt_cmpR op_eq (pe_ix (ixt (K := K)) (pv 5) pe_int (fun _ _ => rfl)) (pv 1) (nomark _))) (fun _ _ _ _ _ => (pv 5)))
      (pss_cons (ps_if (PW.pt (pw_and (pt_cmpR op_ne (pv 3) pe_int (nomark _)) (pw_and1 (pt_cmpR op_eq (pe_callB call_len_seq (by rfl) T.b_len PySem.boot_len (pa_cons (pv 4) pa_nil)) pe_int (nomark _)))))
        (pss_one (ps_ret (pe_tup (pa_cons pe_str (pa_cons (pv 1) pa_nil)))))
        pss_nil)
      (pss_cons (ps_if (pt_cmpR op_eq (pv 3) pe_int (nomark _))
        (pss_one (ps_ret (pe_tup (pa_cons pe_str (pa_cons (pe_ix (ixt (K := K)) (pe_ix (ixl (K := K)) (pv 4) pe_int (fun _ _ => rfl)) pe_int (fun _ _ => rfl)) pa_nil)))))
        pss_nil)
      (pss_cons (ps_if (pt_cmpR op_eq (pv 3) pe_int (nomark _))
        (pss_one (ps_ret (pe_tup (pa_cons pe_str (pa_cons (pe_lc (own := [("pair", 5)]) (g := (gName 5)) rfl nd (pi_list (pv 0)) (blkOk_by (own := [("pair", 5)]) (N := ["house", "number", "text", "word", "found", "pair", "p"]) (sc := defScope s__law_due) (by decide +kernel)) (fun _ _ _ _ _ => (pg_name (i := 5) nd rfl (.inl rfl))) (fun _ _ _ _ _ => pts_one (pt_cmpR op_ne (pe_ix (ixt (K := K)) (pv 5) pe_int (fun _ _ => rfl)) (pv 1) (nomark _))) (fun _ _ _ _ _ => (pv 5))) pa_nil)))))
        pss_nil)
      (pss_cons (ps_if (pt_not (pt_chain op_le op_le pe_int (pv 1) pe_int))
        (pss_one (ps_ret (pe_tup (pa_cons pe_str (pa_cons (pv 1) pa_nil)))))
        pss_nil)
      (pss_cons (ps_if (pt_cmpR op_gt (pe_callB call_len_seq (by rfl) T.b_len PySem.boot_len (pa_cons (pv 4) pa_nil)) pe_int (nomark _))
        (pss_one (ps_ret (pe_tup (pa_cons pe_str (pa_cons (pv 1) pa_nil)))))
        pss_nil)
      (pss_cons (ps_if (PW.pt (pw_or (pt_cmpR op_gt (pe_callB call_len_str (by rfl) T.b_len PySem.boot_len (pa_cons (pv 2) pa_nil)) pe_int (nomark _)) (pw_or1 (pt_cmpR op_in_sign pe_str (pv 2) rfl))))
        (pss_one (ps_ret (pe_tup (pa_cons pe_str (pa_cons (pv 1) pa_nil)))))
        pss_nil)
      (pss_cons (ps_if (pt_cmpR op_eq (pe_callB call_len_seq (by rfl) T.b_len PySem.boot_len (pa_cons (pv 0) pa_nil)) pe_int (nomark _))
        (pss_one (ps_ret (pe_tup (pa_cons pe_str (pa_cons (pv 1) pa_nil)))))
        pss_nil)
      (pss_one (ps_ret (pe_tup (pa_cons pe_str (pa_cons (pe_op op_cat (pe_op op_cat (pe_lc (own := [("p", 6)]) (g := (gName 6)) rfl nd (pi_list (pv 0)) (blkOk_by (own := [("p", 6)]) (N := ["house", "number", "text", "word", "found", "pair", "p"]) (sc := defScope s__law_due) (by decide +kernel)) (fun _ _ _ _ _ => (pg_name (i := 6) nd rfl (.inl rfl))) (fun _ _ _ _ _ => pts_one (pt_cmpR op_lt (pe_ix (ixt (K := K)) (pv 6) pe_int (fun _ _ => rfl)) (pv 1) (nomark _))) (fun _ _ _ _ _ => (pv 6))) (pe_lst (pa_cons (pe_tup (pa_cons (pv 1) (pa_cons (pv 2) pa_nil))) pa_nil))) (pe_lc (own := [("p", 6)]) (g := (gName 6)) rfl nd (pi_list (pv 0)) (blkOk_by (own := [("p", 6)]) (N := ["house", "number", "text", "word", "found", "pair", "p"]) (sc := defScope s__law_due) (by decide +kernel)) (fun _ _ _ _ _ => (pg_name (i := 6) nd rfl (.inl rfl))) (fun _ _ _ _ _ => pts_one (pt_cmpR op_gt (pe_ix (ixt (K := K)) (pv 6) pe_int (fun _ _ => rfl)) (pv 1) (nomark _))) (fun _ _ _ _ _ => (pv 6)))) pa_nil))))))))))))), ?_⟩
    have sz : 2 ≤ sizeLine := by decide
    have hm := map_nums L
    -- a tag and an int
    have tell : ∀ (s : Str) (i : Int) (H' : Hp) (t : Addr), Same H H' → H' t = none → dueOf (L.map (·.2)) n z word = (s, PyData.int i) → Q (.ref t) (upd H' t (.tup [.str s, .int i])) := fun s i H' t sm nt e =>
      q _ _ (sm.trans (same_new nt)) (Due.of e.symm ⟨t, .int i, rfl, upd_same, .int i⟩)
    -- found
    refine ⟨_, rfl, a, rfl, ⟨_, hA.1⟩, fun D hD => ?_⟩
    refine lc_filter hD hA (by omega) (fun q => decide (q.2.1 = n)) (fun t H2 Qn Qf tm sm kn kf => ?_) (fun H1 s1 at1 => ?_)
    · refine ⟨rfl, _, rfl, _, _, _, _, rfl, rfl, same_tup sm (hA.2 t tm), (show atI [V.int t.2.1, V.str t.2.2] 0 = some (.int t.2.1) from rfl), _, rfl, rfl, _, rfl, ite2 (fun e => ?_) (fun e => ?_)⟩
      · exact ⟨_, rfl, kn (decide_eq_true (by have := of_decide_eq_true e; injection this))⟩
      · exact kf (decide_eq_false fun z => e (decide_eq_true (by rw [z])))
    have hF : SqL K H1 D (refs (L.filter fun q => decide (q.2.1 = n))) := .inl (.inl at1)
    have fl : (refs (L.filter fun q => decide (q.2.1 = n))).length = (L.filter fun q => decide (q.2.1 = n)).length := List.length_map ..
    have hA1 := hA.same s1
    -- word != 1 and nothing found
    refine ⟨_, rfl, rfl, _, rfl, ite2 (fun e => ?_) (fun e => iteF ?_)⟩
    · have nw : ¬ word = 1 := fun z => by rw [z] at e; simp at e
      refine ⟨_, rfl, D, _, rfl, .inl hF, rfl, _, rfl, ite2 (fun e2 => ?_) (fun e2 => ?_)⟩
      · have e3 : (L.filter fun q => decide (q.2.1 = n)) = [] := by
          have := of_decide_eq_true e2
          injection this with this
          exact List.length_eq_zero_iff.mp (by omega)
        have e4 := found_nil.mp e3
        refine ⟨_, rfl, sz, fun t nt => tell "none" n H1 t s1 nt ?_⟩
        unfold dueOf
        by_cases h0 : word = 0
        · rw [if_pos h0, fnd_none (by rw [hm]; exact e4)]
        · rw [if_neg h0, if_pos (by omega), if_neg (by rw [hm]; exact e4)]
      · have e3 : (L.filter fun q => decide (q.2.1 = n)) ≠ [] := fun z => e2 (decide_eq_true (by rw [fl, z]; rfl))
        have e4 : n ∈ L.map (fun q => q.2.1) := Decidable.byContradiction fun z => e3 (found_nil.mpr z)
        refine ⟨_, rfl, rfl, _, rfl, ite2 (fun e5 => ?_) (fun e5 => ?_)⟩
        · have ew : word = 0 := by have := of_decide_eq_true e5; injection this
          obtain ⟨t, r, ef⟩ := List.exists_cons_of_ne_nil e3
          have tm : t ∈ L := (List.mem_filter.mp (by rw [ef]; exact List.mem_cons_self ..)).1
          refine ⟨_, rfl, D, _, _, _, rfl, rfl, hF, (by rw [ef]; exact atI_nat (j := 0) rfl), _, _, _, _, rfl, rfl, hA1.2 t tm, (show atI [V.int t.2.1, V.str t.2.2] 1 = some (.str t.2.2) from rfl), sz, fun u nu => ?_⟩
          refine q _ _ (s1.trans (same_new nu)) (Due.of (p := (("text" : Str), PyData.str t.2.2)) ?_ ⟨u, .str t.2.2, rfl, upd_same, .str _⟩)
          unfold dueOf
          rw [if_pos ew, fnd_some ef]
        · have ew : word = 2 := by
            have : ¬ word = 0 := fun z => e5 (decide_eq_true (by rw [z]))
            omega
          refine ⟨_, rfl, rfl, _, rfl, ite2 (fun _ => ?_) (fun e6 => absurd (decide_eq_true (by rw [ew])) e6)⟩
          refine ⟨_, rfl, a, rfl, ⟨_, hA1.1⟩, fun D2 hD2 => ?_⟩
          refine lc_filter hD2 hA1 (by omega) (fun q => decide (q.2.1 ≠ n)) (fun t H2 Qn Qf tm sm kn kf => ?_) (fun H2 s2 at2 => ?_)
          · refine ⟨rfl, _, rfl, _, _, _, _, rfl, rfl, same_tup sm (hA1.2 t tm), (show atI [V.int t.2.1, V.str t.2.2] 0 = some (.int t.2.1) from rfl), _, rfl, rfl, _, rfl, ite2 (fun e => ?_) (fun e => ?_)⟩
            · exact ⟨_, rfl, kn (decide_eq_true (fun z => by rw [z] at e; simp at e))⟩
            · refine kf (decide_eq_false fun ne => e ?_)
              have : ¬ V.int t.2.1 = V.int n := fun z => ne (by injection z)
              rw [decide_eq_false this]
              rfl
          · refine ⟨sz, fun u nu => ?_⟩
            have s3 := s2.trans (same_new (o := .tup [.str "house", .ref D2]) nu)
            have hp := HsAt.filter (K := K) (hA1.2.same s3) (fun q => decide (q.2.1 ≠ n))
            have at3 := (same_new (o := .tup [.str "house", .ref D2]) nu) _ _ at2
            refine q _ _ (s1.trans s3) (Due.of (p := (("house" : Str), dH ((L.filter fun q => decide (q.2.1 ≠ n)).map (·.2)))) ?_ ⟨u, .ref D2, rfl, upd_same, dp_house ⟨.inl (.inl at3), hp⟩⟩)
            unfold dueOf
            rw [if_neg (by omega), if_pos ew, if_pos (by rw [hm]; exact e4), map_filter L (fun q => decide (q.1 ≠ n))]
    · have ew : word = 1 := by
        refine Decidable.byContradiction fun ne => e ?_
        have : ¬ V.int word = V.int 1 := fun z => ne (by injection z)
        rw [decide_eq_false this]
        rfl
      subst ew
      have hd : dueOf (L.map (·.2)) n z 1 = if ¬ (0 ≤ n ∧ n ≤ 99) then (("range" : Str), PyData.int n) else if n ∈ L.map (fun q => q.2.1) then (("taken" : Str), PyData.int n) else if isTxt z = false then (("bad" : Str), PyData.int n) else if 8 ≤ L.length then (("many" : Str), PyData.int n) else (("house" : Str), dH (ins n z (L.map (·.2)))) := by
        unfold dueOf
        rw [if_neg (by decide), if_neg (by decide), hm, List.length_map]
      refine ⟨_, rfl, rfl, _, rfl, ?_⟩
      refine ⟨_, rfl, rfl, _, rfl, ?_⟩
      -- the range
      have range : ¬ (0 ≤ n ∧ n ≤ 99) → ∀ t, H1 t = none → Q (.ref t) (upd H1 t (.tup [.str "range", .int n])) := fun c t nt => tell "range" n H1 t s1 nt (by rw [hd, if_pos c])
      refine ⟨_, rfl, _, _, rfl, rfl, _, rfl, ite2 (fun c0 => ?_) (fun c0 => ?_)⟩
      · have n0 := of_decide_eq_true c0
        refine ⟨_, _, rfl, rfl, _, rfl, ?_⟩
        by_cases n1 : n ≤ 99
        · rw [decide_eq_true n1]
          have nn : 0 ≤ n ∧ n ≤ 99 := ⟨n0, n1⟩
          rw [if_neg (fun z => z nn)] at hd
          refine ⟨_, rfl, D, _, rfl, .inl hF, _, _, rfl, rfl, _, rfl, ite2 (fun c2 => ?_) (fun c2 => ?_)⟩
          · have c3 := of_decide_eq_true c2
            have e4 : n ∈ L.map (fun q => q.2.1) := Decidable.byContradiction fun z => by
              rw [fl, found_nil.mpr z] at c3
              simp at c3
            exact ⟨_, rfl, sz, fun t nt => tell "taken" n H1 t s1 nt (by rw [hd, if_pos e4])⟩
          · have e4 : n ∉ L.map (fun q => q.2.1) := by
              refine found_nil.mp (List.length_eq_zero_iff.mp ?_)
              have : ¬ (0 : Int) < ((refs (L.filter fun q => decide (q.2.1 = n))).length : Int) := fun z => c2 (decide_eq_true z)
              omega
            rw [if_neg e4] at hd
            have bad : isTxt z = false → ∀ t, H1 t = none → Q (.ref t) (upd H1 t (.tup [.str "bad", .int n])) := fun c t nt => tell "bad" n H1 t s1 nt (by rw [hd, if_pos c])
            refine ⟨_, rfl, z, rfl, Nat.le_trans hz (by decide), _, _, rfl, rfl, _, rfl, ite2 (fun c5 => ?_) (fun c5 => ?_)⟩
            · have c6 := of_decide_eq_true c5
              have : isTxt z = false := by rw [ht, decide_eq_false (by omega)]; rfl
              exact ⟨_, rfl, sz, bad this⟩
            · have c6 : z.length ≤ 40 := by
                have : ¬ (40 : Int) < (z.length : Int) := fun y => c5 (decide_eq_true y)
                omega
              refine ⟨_, rfl, 10, z, rfl, rfl, _, rfl, ite2 (fun c7 => ?_) (fun c7 => ?_)⟩
              · have : isTxt z = false := by rw [ht, c7]; simp
                exact ⟨_, rfl, sz, bad this⟩
              · have c8 : isTxt z = true := by
                  have c9 : decide (10 ∈ z.cps.toList) = false := by simpa using c7
                  rw [ht, c9, decide_eq_true c6]
                  rfl
                rw [if_neg (by rw [c8]; decide)] at hd
                refine ⟨_, rfl, a, _, rfl, .inl hA1.1, rfl, _, rfl, ite2 (fun c9 => ?_) (fun c9 => ?_)⟩
                · have : L.length = 8 := by
                    have := of_decide_eq_true c9
                    injection this with this
                    have r := refs_len L
                    omega
                  exact ⟨_, rfl, sz, fun t nt => tell "many" n H1 t s1 nt (by rw [hd, if_pos (by omega)])⟩
                · have l8 : ¬ 8 ≤ L.length := fun y => c9 (decide_eq_true (by
                    have r := refs_len L
                    have : (refs L).length = 8 := by omega
                    rw [this]; rfl))
                  rw [if_neg l8] at hd
                  -- the pairs below, the new one, the pairs above
                  refine ⟨_, rfl, a, rfl, ⟨_, hA1.1⟩, fun D2 hD2 => ?_⟩
                  refine lc_filter hD2 hA1 (by omega) (fun q => decide (q.2.1 < n)) (fun t H2 Qn Qf tm sm kn kf => ?_) (fun H2 s2 at2 => ?_)
                  · refine ⟨rfl, _, rfl, _, _, _, _, rfl, rfl, same_tup sm (hA1.2 t tm), (show atI [V.int t.2.1, V.str t.2.2] 0 = some (.int t.2.1) from rfl), _, rfl, _, _, rfl, rfl, _, rfl, ite2 (fun e => ?_) (fun e => ?_)⟩
                    · exact ⟨_, rfl, kn e⟩
                    · exact kf (by simpa using e)
                  refine ⟨_, rfl, _, rfl, sz, fun u nu => ?_⟩
                  have s3 := same_new (o := .tup [.int n, .str z]) nu
                  refine ⟨(by show 1 ≤ sizeLine; decide), fun l nl => ?_⟩
                  have s4 := s3.trans (same_new (o := .lst [.ref u]) nl)
                  have s24 := s2.trans s4
                  have fl2 : (refs (L.filter fun q => decide (q.2.1 < n))).length ≤ L.length := by
                    unfold refs
                    rw [List.length_map]
                    exact List.length_filter_le _ _
                  refine ⟨D2, l, _, _, rfl, rfl, s4 _ _ at2, upd_same, (Nat.le_trans (by simp; omega : _ ≤ 100) (by decide)), fun m nm => ?_⟩
                  have s5 := s24.trans (same_new (o := .lst (refs (L.filter fun q => decide (q.2.1 < n)) ++ [V.ref u])) nm)
                  have hA5 := hA1.same s5
                  refine ⟨_, rfl, a, rfl, ⟨_, hA5.1⟩, fun D3 hD3 => ?_⟩
                  refine lc_filter hD3 hA5 (by omega) (fun q => decide (n < q.2.1)) (fun t H3 Qn Qf tm sm kn kf => ?_) (fun H3 s6 at3 => ?_)
                  · refine ⟨rfl, _, rfl, _, _, _, _, rfl, rfl, same_tup sm (hA5.2 t tm), (show atI [V.int t.2.1, V.str t.2.2] 0 = some (.int t.2.1) from rfl), _, rfl, _, _, rfl, rfl, _, rfl, ite2 (fun e => ?_) (fun e => ?_)⟩
                    · exact ⟨_, rfl, kn e⟩
                    · exact kf (by simpa using e)
                  have fl3 : (refs (L.filter fun q => decide (n < q.2.1))).length ≤ L.length := by
                    unfold refs
                    rw [List.length_map]
                    exact List.length_filter_le _ _
                  refine ⟨m, D3, _, _, rfl, rfl, s6 _ _ upd_same, at3, (Nat.le_trans (by simp; omega : _ ≤ 100) (by decide)), fun k nk => ⟨sz, fun v nv => ?_⟩⟩
                  let M : PL := (L.filter fun q => decide (q.2.1 < n)) ++ [(u, n, z)] ++ (L.filter fun q => decide (n < q.2.1))
                  have em : refs M = refs (L.filter fun q => decide (q.2.1 < n)) ++ [V.ref u] ++ refs (L.filter fun q => decide (n < q.2.1)) := by
                    show List.map _ (_ ++ _ ++ _) = _
                    rw [List.map_append, List.map_append]
                    rfl
                  have s7 : Same H3 (upd (upd H3 k (.lst (refs (L.filter fun q => decide (q.2.1 < n)) ++ [V.ref u] ++ refs (L.filter fun q => decide (n < q.2.1))))) v (.tup [.str "house", .ref k])) := (same_new nk).trans (same_new nv)
                  have hu : SqT K H3 u [.int n, .str z] := by
                    have a1 : (upd H2 u (.tup [.int n, .str z])) u = some (.tup [.int n, .str z]) := upd_same
                    have a2 := same_new (o := .lst [.ref u]) nl _ _ a1
                    have a3 := same_new (o := .lst (refs (L.filter fun q => decide (q.2.1 < n)) ++ [V.ref u])) nm _ _ a2
                    exact .inl (.inl (s6 _ _ a3))
                  have hM : PairsAt K H3 M := fun q hq => by
                    have hA6 := hA5.2.same s6
                    rcases List.mem_append.mp hq with y | y
                    · rcases List.mem_append.mp y with y | y
                      · exact hA6 q (List.mem_filter.mp y).1
                      · rw [List.mem_singleton.mp y]
                        exact hu
                    · exact hA6 q (List.mem_filter.mp y).1
                  refine q _ _ (((s1.trans s5).trans s6).trans s7) (Due.of (p := (("house" : Str), dH (M.map (·.2)))) ?_ ⟨v, .ref k, rfl, upd_same, dp_house (L := M) ⟨.inl (.inl ?_), hM.same s7⟩⟩)
                  · rw [hd]
                    show (("house" : Str), dH (M.map (·.2))) = _
                    have e1 : M.map (·.2) = ins n z (L.map (·.2)) := by
                      show List.map _ (_ ++ _ ++ _) = _
                      rw [List.map_append, List.map_append, map_filter L (fun q => decide (q.1 < n)), map_filter L (fun q => decide (n < q.1))]
                      rfl
                    rw [e1]
                  · rw [em]
                    exact same_new nv _ _ upd_same
        · rw [decide_eq_false n1]
          exact ⟨_, rfl, sz, range fun y => n1 y.2⟩
      · have n0 : ¬ 0 ≤ n := fun y => c0 (decide_eq_true y)
        refine ⟨_, rfl, ?_⟩
        exact ⟨_, rfl, sz, range fun y => n0 y.1⟩
/-- a house spoilt: no house -/
def spSpoilt (K : PySem.W.Frag) : Sp := fun vs H Q _ => ∃ (dr a : Addr) (ns : List Int) (L : PL), vs = [.ref dr, .ref a] ∧ SqL K H dr (ns.map V.int) ∧ Dr ns ∧ H a = some (.lst (refs L)) ∧ PairsAt K H L ∧ L.length ≤ 8 ∧ IsHs 40 (L.map (·.2)) ∧
  ∀ (p : Addr) (L' : PL) (H' : Hp), Same H H' → HsAt K H' p L' → L'.length ≤ 1000 → (∀ q ∈ L', q.2.2.length ≤ 1000) → isH (L'.map (·.2)) = false → Q (.ref p) H'
theorem pairs_app {K : PySem.W.Frag} {H : Hp} {L M : PL} (a : PairsAt K H L) (b : PairsAt K H M) : PairsAt K H (L ++ M) := fun q hq => (List.mem_append.mp hq).elim (a q) (b q)
theorem pairs_one {K : PySem.W.Frag} {H : Hp} {t : Addr} {n : Int} {z : Str} (h : SqT K H t [.int n, .str z]) : PairsAt K H [(t, n, z)] := fun q hq => by rw [List.mem_singleton.mp hq]; exact h
theorem refs_app (L M : PL) : refs (L ++ M) = refs L ++ refs M := List.map_append ..
theorem sc__law_spoilt : FnScope ["draws", "house", "word", "odd", "k", "text"] ["draws", "house"] (defScope s__law_spoilt) := ⟨rfl, rfl, rfl, by decide +kernel, rfl, by decide +kernel, by decide +kernel⟩
theorem ok__law_spoilt (T : Txt K mg ea) (c__law_at : Cl P w K mg base 1 "_law_at" (spDraw K)) : Cl P w K mg base 2 "_law_spoilt" (spSpoilt K) := by
  have nd := sc__law_spoilt.nd
  refine cl_of T.d__law_spoilt sc__law_spoilt (fun vs H Q E h => ?_) (fun f cdv A outer s H vs Q E hr h => ?_)
  · obtain ⟨dr, a, ns, L, rfl, _⟩ := h
    rfl
  · obtain ⟨dr, a, ns, L, rfl, hS, hD, ha, hp, hl, hh, q⟩ := h
    refine ⟨_, (pss_cons (ps_set (i := 2) nd rfl (.inl rfl) (C8.pe_c c__law_at hr (by decide) (by rfl) (pa_cons (pv 0) (pa_cons pe_int (pa_cons pe_int pa_nil)))))
      (pss_cons (ps_if (pt_cmpR op_eq (pv 2) pe_int (nomark _))
        (pss_one (ps_ret (pe_op op_cat (pv 1) (pe_lst (pa_cons (pe_tup (pa_cons (pe_op op_add pe_int (C8.pe_c c__law_at hr (by decide) (by rfl) (pa_cons (pv 0) (pa_cons pe_int (pa_cons pe_int pa_nil))))) (pa_cons pe_str pa_nil))) pa_nil)))))
        pss_nil)
      (pss_cons (ps_if (pt_cmpR op_eq (pv 2) pe_int (nomark _))
        (pss_one (ps_ret (pe_op op_cat (pe_lst (pa_cons (pe_tup (pa_cons (pe_op op_sub (pe_un un_neg pe_int) (C8.pe_c c__law_at hr (by decide) (by rfl) (pa_cons (pv 0) (pa_cons pe_int (pa_cons pe_int pa_nil))))) (pa_cons pe_str pa_nil))) pa_nil)) (pv 1))))
        pss_nil)
      (C8.pss_cut (ps_if (PW.pt (pw_and (pt_cmpR op_eq (pv 2) pe_int (nomark _)) (pw_and1 (pt_cmpR op_gt (pe_callB call_len_seq (by rfl) T.b_len PySem.boot_len (pa_cons (pv 1) pa_nil)) pe_int (nomark _)))))
        (pss_one (ps_ret (pe_op op_cat (pv 1) (pe_lst (pa_cons (pe_ix (ixl (K := K)) (pv 1) (C8.pe_c c__law_at hr (by decide) (by rfl) (pa_cons (pv 0) (pa_cons pe_int (pa_cons (pe_callB call_len_seq (by rfl) T.b_len PySem.boot_len (pa_cons (pv 1) pa_nil)) pa_nil)))) (fun _ _ => rfl)) pa_nil)))))
        pss_nil)
      (pss_cons (ps_if (pt_cmpR op_eq (pv 2) pe_int (nomark _))
        (pss_one (ps_ret (pe_lc (own := [("k", 4)]) (g := (gName 4)) rfl nd (pi_range1 rfl T.b_range (pa_cons (pe_op op_add pe_int (C8.pe_c c__law_at hr (by decide) (by rfl) (pa_cons (pv 0) (pa_cons pe_int (pa_cons pe_int pa_nil))))) pa_nil)) (blkOk_by (own := [("k", 4)]) (N := ["draws", "house", "word", "odd", "k", "text"]) (sc := defScope s__law_spoilt) (by decide +kernel)) (fun _ _ _ _ _ => (pg_name (i := 4) nd rfl (.inl rfl))) (fun _ _ _ _ _ => pts_nil) (fun _ _ _ _ _ => (pe_tup (pa_cons (pv 4) (pa_cons pe_str pa_nil)))))))
        pss_nil)
      (pss_cons (ps_set (i := 3) nd rfl (.inl rfl) (pe_op op_add_str (pe_ix (ixl (K := K)) (pe_lst (pa_cons pe_str (pa_cons pe_str pa_nil))) (C8.pe_c c__law_at hr (by decide) (by rfl) (pa_cons (pv 0) (pa_cons pe_int (pa_cons pe_int pa_nil)))) (fun _ _ => rfl)) pe_str))
      (C8.pss_cut (ps_if (pt_cmpR op_eq (pv 2) pe_int (nomark _))
        (pss_one (ps_set (i := 3) nd rfl (.inl rfl) (pe_join pe_str (pe_lc (own := [("k", 4)]) (g := (gName 4)) rfl nd (pi_range1 rfl T.b_range (pa_cons (pe_op op_add pe_int (C8.pe_c c__law_at hr (by decide) (by rfl) (pa_cons (pv 0) (pa_cons pe_int (pa_cons pe_int pa_nil))))) pa_nil)) (blkOk_by (own := [("k", 4)]) (N := ["draws", "house", "word", "odd", "k", "text"]) (sc := defScope s__law_spoilt) (by decide +kernel)) (fun _ _ _ _ _ => (pg_name (i := 4) nd rfl (.inl rfl))) (fun _ _ _ _ _ => pts_nil) (fun _ _ _ _ _ => pe_str)))))
        pss_nil)
      (pss_one (ps_ret (pe_op op_cat (pe_lc (own := [("k", 4), ("text", 5)]) (g := (gTup K 2 (gCons (gName 4) (gCons (gName 5) gNil)))) rfl nd (pi_list (pe_slice sl_list (pv 1) po_none (po_some pe_int))) (blkOk_by (own := [("k", 4), ("text", 5)]) (N := ["draws", "house", "word", "odd", "k", "text"]) (sc := defScope s__law_spoilt) (by decide +kernel)) (fun _ _ _ _ _ => (pg_tup rfl (pgs_cons (pg_name (i := 4) nd rfl (.inl rfl)) (pgs_cons (pg_name (i := 5) nd rfl (.inl rfl)) pgs_nil)))) (fun _ _ _ _ _ => pts_one (pt_cmpR op_lt (pv 4) pe_int (nomark _))) (fun _ _ _ _ _ => (pe_tup (pa_cons (pv 4) (pa_cons (pv 5) pa_nil))))) (pe_lst (pa_cons (pe_tup (pa_cons pe_int (pa_cons (pv 3) pa_nil))) pa_nil)))))))))))), ?_⟩
    have sz : 2 ≤ sizeLine := by decide
    have sz1 : 1 ≤ sizeLine := by decide
    have rl := refs_len L
    have ht : ∀ q ∈ L, q.2.2.length ≤ 1000 := fun q hq => Nat.le_trans (hh.txt q.2 (List.mem_map_of_mem hq)).2 (by decide)
    refine ⟨_, rfl, dr, ns, 0, 6, rfl, hS, hD, by omega, by omega, by omega, fun word w0 w1 => ?_⟩
    refine ⟨_, rfl, rfl, _, rfl, ite2 (fun _ => ?_) (fun e0 => ?_)⟩
    · -- a number too great behind
      refine ⟨_, rfl, _, rfl, dr, ns, 1, 5, rfl, hS, hD, by omega, by omega, by omega, fun r r0 r1 => ⟨_, _, rfl, rfl, sz, fun t nt => ⟨sz1, fun l nl => ?_⟩⟩⟩
      have s1 := same_new (o := .tup [.int (100 + r), .str "a"]) nt
      have s2 := s1.trans (same_new (o := .lst [.ref t]) nl)
      refine ⟨a, l, _, _, rfl, rfl, s2 _ _ ha, upd_same, (Nat.le_trans (by simp; omega : _ ≤ 100) (by decide)), fun p np => ?_⟩
      have s3 := s2.trans (same_new (o := .lst (refs L ++ [.ref t])) np)
      have ht2 : SqT K (upd (upd (upd H t (.tup [.int (100 + r), .str "a"])) l (.lst [.ref t])) p (.lst (refs L ++ [.ref t]))) t [.int (100 + r), .str "a"] :=
        same_tup ((same_new nl).trans (same_new np)) (.inl (.inl upd_same))
      refine q p (L ++ [(t, 100 + r, ("a" : Str))]) _ s3 ⟨.inl (.inl ?_), pairs_app (hp.same s3) (pairs_one ht2)⟩ (by simp; omega) (fun x hx => ?_) (isH_false fun z => ?_)
      · rw [upd_same, refs_app]; rfl
      · rcases List.mem_append.mp hx with m | m
        · exact ht x m
        · rw [List.mem_singleton.mp m]; show ("a" : Str).length ≤ 1000; decide
      · have := (z.2.2 (100 + r, ("a" : Str)) (by simp)).2.1
        have h9 : 100 + r ≤ 99 := this
        omega
    · refine ⟨_, rfl, rfl, _, rfl, ite2 (fun _ => ?_) (fun e1 => ?_)⟩
      · -- a number below 0 ahead
        refine ⟨1, rfl, _, rfl, dr, ns, 1, 3, rfl, hS, hD, by omega, by omega, by omega, fun r r0 r1 => ⟨_, _, rfl, rfl, sz, fun t nt => ⟨sz1, fun l nl => ?_⟩⟩⟩
        have s1 := same_new (o := .tup [.int (-1 - r), .str "a"]) nt
        have s2 := s1.trans (same_new (o := .lst [.ref t]) nl)
        refine ⟨_, rfl, l, a, _, _, rfl, rfl, upd_same, s2 _ _ ha, (Nat.le_trans (by simp; omega : _ ≤ 100) (by decide)), fun p np => ?_⟩
        have s3 := s2.trans (same_new (o := .lst ([.ref t] ++ refs L)) np)
        have ht2 : SqT K (upd (upd (upd H t (.tup [.int (-1 - r), .str "a"])) l (.lst [.ref t])) p (.lst ([.ref t] ++ refs L))) t [.int (-1 - r), .str "a"] :=
          same_tup ((same_new nl).trans (same_new np)) (.inl (.inl upd_same))
        refine q p ([(t, -1 - r, ("a" : Str))] ++ L) _ s3 ⟨.inl (.inl ?_), pairs_app (pairs_one ht2) (hp.same s3)⟩ (by simp; omega) (fun x hx => ?_) (isH_false fun z => ?_)
        · rw [upd_same, refs_app]; rfl
        · rcases List.mem_append.mp hx with m | m
          · rw [List.mem_singleton.mp m]; show ("a" : Str).length ≤ 1000; decide
          · exact ht x m
        · have := (z.2.2 (-1 - r, ("a" : Str)) (by simp)).1
          have h9 : -1 < -1 - r := this
          omega
      · refine ⟨fun σ' H' => H' = H ∧ σ' = [some (.ref dr), some (.ref a), some (.int word), none, none, none], ?_, ?_⟩
        refine ⟨_, rfl, rfl, _, rfl, ite2 (fun _ => ?_) (fun e2 => iteF ⟨rfl, rfl⟩)⟩
        · refine ⟨_, rfl, a, _, rfl, .inl (.inl (.inl ha)), _, _, rfl, rfl, _, rfl, ite2 (fun e3 => ?_) (fun e3 => ?_)⟩
          · -- a pair twice
            have e4 := of_decide_eq_true e3
            refine ⟨_, rfl, _, rfl, _, rfl, _, rfl, a, _, rfl, .inl (.inl (.inl ha)), dr, ns, 1, _, rfl, hS, hD, by omega, by omega, e4, fun r r0 r1 => ?_⟩
            obtain ⟨t, hx, tm⟩ := at_map (fun q : Addr × Int × Str => V.ref q.1) (xs := L) (i := r) r0 (by omega)
            refine ⟨a, _, r, _, rfl, rfl, .inl (.inl ha), hx, sz1, fun l nl => ?_⟩
            have s2 := same_new (o := .lst [.ref t.1]) nl
            refine ⟨a, l, _, _, rfl, rfl, s2 _ _ ha, upd_same, (Nat.le_trans (by simp; omega : _ ≤ 100) (by decide)), fun p np => ?_⟩
            have s3 := s2.trans (same_new (o := .lst (refs L ++ [.ref t.1])) np)
            refine q p (L ++ [t]) _ s3 ⟨.inl (.inl ?_), pairs_app (hp.same s3) (fun x hx => by rw [List.mem_singleton.mp hx]; exact (hp.same s3) t tm)⟩ (by simp; omega) (fun x hx => ?_) (isH_false fun z => ?_)
            · rw [upd_same, refs_app]; rfl
            · rcases List.mem_append.mp hx with m | m
              · exact ht x m
              · rw [List.mem_singleton.mp m]; exact ht t tm
            · have pw := z.2.1
              rw [List.map_append, List.map_append, List.pairwise_append] at pw
              have := pw.2.2 t.2.1 (List.mem_map.mpr ⟨t.2, List.mem_map_of_mem tm, rfl⟩) t.2.1 (by simp)
              omega
          · exact ⟨rfl, rfl⟩
        rintro σ' H' ⟨rfl, rfl⟩
        refine ⟨_, rfl, rfl, _, rfl, ite2 (fun _ => ?_) (fun e3 => ?_)⟩
        · -- too many pairs
          refine ⟨_, rfl, dr, ns, 1, 3, rfl, hS, hD, by omega, by omega, by omega, fun r r0 r1 => ⟨_, _, rfl, rfl, _, rfl, by show -(2 ^ 62) ≤ 9 + r; omega, by show 9 + r < 2 ^ 62; omega, fun D hD2 => ?_⟩⟩
          refine lc_w (walk_range (lo := 0) (n := (9 + r).toNat)) hD2 (by omega) (fun _ _ => trivial) (fun i acc H2 => ∃ L2 : PL, acc = refs L2 ∧ PairsAt K H2 L2 ∧ L2.length = i ∧ ∀ x ∈ L2, x.2.2.length ≤ 1000) (fun _ _ => ⟨[], rfl, (fun x hx => nomatch hx), rfl, (fun x hx => nomatch hx)⟩)
            (fun i acc H2 H3 l hl e r => ?_) (fun i H x H' y => by rw [y.1]; exact Same.refl _) (fun i x acc H2 H3 Qn Qf hi sm y r at_ kn kf => ?_) (fun acc H2 sm at_ _ r => ?_)
          · obtain ⟨L2, a1, a2, a3, a4⟩ := r
            exact ⟨L2, a1, but_pairs hl e a2, a3, a4⟩
          · obtain ⟨rfl, rfl⟩ := y
            obtain ⟨L2, a1, a2, a3, a4⟩ := r
            refine ⟨rfl, _, rfl, sz, fun t nt => ?_⟩
            have s1 := same_new (o := .tup [.int (0 + (i : Int)), .str "b"]) nt
            refine kn _ _ s1 ⟨L2 ++ [(t, 0 + (i : Int), ("b" : Str))], ?_, pairs_app (a2.same s1) (pairs_one (.inl (.inl upd_same))), by simp [a3], fun x hx => ?_⟩
            · rw [refs_app, a1]; rfl
            · rcases List.mem_append.mp hx with m | m
              · exact a4 x m
              · rw [List.mem_singleton.mp m]; show ("b" : Str).length ≤ 1000; decide
          · obtain ⟨L2, a1, a2, a3, a4⟩ := r
            refine q D L2 H2 sm ⟨.inl (.inl (by rw [at_, a1])), a2⟩ (by omega) a4 (isH_false fun z => ?_)
            have := z.1
            rw [List.length_map] at this
            omega
        -- a text that is none
        refine ⟨sz, fun l nl => ?_⟩
        have s1 := same_new (o := .lst [.str "", .str "ab"]) nl
        refine ⟨_, rfl, dr, ns, 1, 2, rfl, s1.seq hS, hD, by omega, by omega, by omega, fun r r0 r1 => ?_⟩
        obtain ⟨o, ho, om⟩ := at_map V.str (xs := [("" : Str), "ab"]) (i := r) r0 r1
        have ol : o.length ≤ 2 := by
          simp only [List.mem_cons, List.not_mem_nil, or_false] at om
          rcases om with e | e <;> subst e <;> decide
        refine ⟨l, _, r, _, rfl, rfl, .inl (.inl upd_same), ho, o, _, rfl, rfl, (Nat.le_trans (by show o.length + 1 ≤ 100; omega) (by decide)), ?_⟩
        have hz0 : isTxt (o ++ "\n") = false := isTxt_line (by
          have e : (o ++ ("\n" : Str)).cps.toList = o.cps.toList ++ ("\n" : Str).cps.toList := TL.tl_append o "\n"
          rw [e]
          exact List.mem_append.mpr (.inr (by decide)))
        have hl0 : (o ++ ("\n" : Str)).length ≤ 1000 := by rw [len_app]; show o.length + 1 ≤ 1000; omega
        -- the text behind the if
        refine ⟨fun σ2 H2 => ∃ z : Str, isTxt z = false ∧ z.length ≤ 1000 ∧ Same H' H2 ∧ σ2 = [some (.ref dr), some (.ref a), some (.int word), some (.str z), none, none], ?_, ?_⟩
        · refine ⟨_, rfl, rfl, _, rfl, ite2 (fun _ => ?_) (fun _ => ⟨_, hz0, hl0, s1, rfl⟩)⟩
          refine ⟨⟨_, rfl⟩, _, rfl, dr, ns, 1, 4, rfl, s1.seq hS, hD, by omega, by omega, by omega, fun r r0 r1 => ⟨_, _, rfl, rfl, _, rfl, by show -(2 ^ 62) ≤ 41 + r; omega, by show 41 + r < 2 ^ 62; omega, fun D hD2 => ?_⟩⟩
          refine lc_w (walk_range (lo := 0) (n := (41 + r).toNat)) hD2 (by omega) (fun _ _ => trivial) (fun i acc _ => acc = (List.replicate i (⟨#[97]⟩ : Str)).map V.str) (fun _ _ => rfl)
            (fun _ _ _ _ _ _ _ r => r) (fun i H x H' y => by rw [y.1]; exact Same.refl _) (fun i x acc H2 H3 Qn Qf hi sm y r at_ kn kf => ?_) (fun acc H2 sm at_ _ ra => ?_)
          · obtain ⟨rfl, rfl⟩ := y
            refine ⟨rfl, kn _ _ (Same.refl _) ?_⟩
            rw [r, List.replicate_succ', List.map_append]
            rfl
          · refine ⟨"", D, List.replicate (41 + r).toNat ⟨#[97]⟩, rfl, rfl, .inl (.inl (.inl (by rw [at_, ra]))), ?_, ?_⟩
            · rw [List.map_replicate, List.sum_replicate_nat, List.length_replicate]
              show (41 + r).toNat * 1 + (41 + r).toNat * 0 ≤ 16777216
              omega
            · exact ⟨_, isTxt_long (by rw [join_len]; omega), by rw [join_len]; omega, s1.trans sm, rfl⟩
        · rintro σ2 H2 ⟨z, hz, zl, s2, rfl⟩
          refine ⟨_, rfl, 7, rfl, a, _, rfl, .inl (.inl (s2 _ _ ha)), fun c nc => ?_⟩
          have ec : cutV (refs L) none (some 7) = refs (L.take 7) := by
            rw [show (7 : Int) = ((7 : Nat) : Int) from rfl, cut_to]
            unfold refs
            rw [List.map_take]
          rw [ec]
          have s3 := s2.trans (same_new (o := .lst (refs (L.take 7))) nc)
          have hT : HsAt K (upd H2 c (.lst (refs (L.take 7)))) c (L.take 7) := ⟨.inl (.inl upd_same), fun x hx => (hp.same s3) x (List.mem_of_mem_take hx)⟩
          refine ⟨c, rfl, ⟨_, hT.1⟩, fun D hD2 => ?_⟩
          refine lc_w (walk_list (xs := refs (L.take 7))) hD2 (by rw [refs_len, List.length_take]; omega) (fun H' e => e.seq hT.1) (fun i acc H3 => ∃ L2 : PL, acc = refs L2 ∧ PairsAt K H3 L2 ∧ L2.length ≤ i ∧ ∀ x ∈ L2, x.2.2.length ≤ 1000) (fun _ _ => ⟨[], rfl, (fun x hx => nomatch hx), Nat.le_refl _, (fun x hx => nomatch hx)⟩)
            (fun i acc H2 H3 l hl e r => ?_) (fun i H x H' y => by rw [y.1]; exact Same.refl _) (fun i x acc H3 H4 Qn Qf hi sm y r at_ kn kf => ?_) (fun acc H3 sm at_ _ r => ?_)
          · obtain ⟨L2, a1, a2, a3, a4⟩ := r
            exact ⟨L2, a1, but_pairs hl e a2, a3, a4⟩
          · obtain ⟨rfl, hx⟩ := y
            obtain ⟨t, _, tm, rfl⟩ := refs_get hx
            have tm2 := List.mem_of_mem_take tm
            obtain ⟨L2, a1, a2, a3, a4⟩ := r
            refine ⟨_, _, rfl, same_tup sm (hT.2 t tm), rfl, _, _, rfl, _, _, rfl, rfl, rfl, ?_⟩
            refine ⟨_, rfl, _, _, rfl, rfl, _, rfl, ite2 (fun e => ?_) (fun e => ?_)⟩
            · refine ⟨_, rfl, _, rfl, sz, fun u nu => ?_⟩
              have s4 := same_new (o := .tup [.int t.2.1, .str t.2.2]) nu
              refine kn _ _ s4 ⟨L2 ++ [(u, t.2)], ?_, pairs_app (a2.same s4) (pairs_one (.inl (.inl upd_same))), by rw [List.length_append]; show L2.length + 1 ≤ i + 1; omega, fun x hx => ?_⟩
              · rw [refs_app, a1]; rfl
              · rcases List.mem_append.mp hx with m | m
                · exact a4 x m
                · rw [List.mem_singleton.mp m]; exact ht t tm2
            · exact kf _ (Same.refl _) ⟨L2, a1, a2, by omega, a4⟩
          · obtain ⟨L2, a1, a2, a3, a4⟩ := r
            rw [refs_len, List.length_take] at a3
            refine ⟨_, rfl, sz, fun t nt => ⟨sz1, fun l2 nl2 => ?_⟩⟩
            have s5 := same_new (o := .tup [.int 99, .str z]) nt
            have s6 := s5.trans (same_new (o := .lst [.ref t]) nl2)
            refine ⟨D, l2, _, _, rfl, rfl, s6 _ _ at_, upd_same, (Nat.le_trans (by rw [a1, refs_len]; show L2.length + 1 ≤ 100; omega) (by decide)), fun p np => ?_⟩
            have s7 := s6.trans (same_new (o := .lst (acc ++ [.ref t])) np)
            have ht2 : SqT K (upd (upd (upd H3 t (.tup [.int 99, .str z])) l2 (.lst [.ref t])) p (.lst (acc ++ [.ref t]))) t [.int 99, .str z] :=
              same_tup ((same_new nl2).trans (same_new np)) (.inl (.inl upd_same))
            refine q p (L2 ++ [(t, 99, z)]) _ ((s3.trans sm).trans s7) ⟨.inl (.inl ?_), pairs_app (a2.same s7) (pairs_one ht2)⟩ (by rw [List.length_append]; show L2.length + 1 ≤ 1000; omega) (fun x hx => ?_) (isH_false fun y => ?_)
            · rw [upd_same, refs_app, a1]; rfl
            · rcases List.mem_append.mp hx with m | m
              · exact a4 x m
              · rw [List.mem_singleton.mp m]; exact zl
            · have := (y.2.2 (99, z) (by simp)).2.2
              have h9 : isTxt z = true := this
              rw [hz] at h9
              cases h9
/-- what is due can be compared -/
theorem fnd_let {n : Int} {x : Str} : ∀ {h : List (Int × Str)}, LetAll h → fnd n h = some x → IsLet x
  | [], _, e => by cases e
  | q :: r, a, e => by
    have e' : (if q.1 = n then some q.2 else fnd n r) = some x := e
    by_cases c : q.1 = n
    · rw [if_pos c] at e'
      have := a q (List.mem_cons_self ..)
      rwa [Option.some.inj e'] at this
    · rw [if_neg c] at e'
      exact fnd_let (fun y m => a y (List.mem_cons_of_mem _ m)) e'
theorem due_ok {h : List (Int × Str)} {n : Int} {z : Str} {word : Int} (a : LetAll h) : SeqAt.shaped (dT (dueOf h n z word)) = true ∧ PyData.eqv (dT (dueOf h n z word)) (dT (dueOf h n z word)) = true := by
  have key : PyData.strOk (dueOf h n z word).1 = true ∧ (dueOf h n z word).2.canLay0 = true ∧ (dueOf h n z word).2.depth ≤ 60 := by
    have c : ∀ s : Str, PyData.strOk s = true → PyData.strOk ((s, PyData.int n) : Str × PyData).1 = true ∧ (((s, PyData.int n) : Str × PyData).2).canLay0 = true ∧ (((s, PyData.int n) : Str × PyData).2).depth ≤ 60 := fun s hs => ⟨hs, rfl, Nat.zero_le _⟩
    unfold dueOf
    by_cases h0 : word = 0
    · rw [if_pos h0]
      cases e : fnd n h with
      | none => exact c "none" (by decide +kernel)
      | some x => exact ⟨by show PyData.strOk ("text" : Str) = true; decide +kernel, let_ok (fnd_let a e), Nat.zero_le _⟩
    · rw [if_neg h0]
      by_cases h2 : word = 2
      · rw [if_pos h2]
        by_cases hn : n ∈ h.map (·.1)
        · rw [if_pos hn]
          exact ⟨by show PyData.strOk ("house" : Str) = true; decide +kernel, dH_lay (a.filter _), dH_depth _⟩
        · rw [if_neg hn]
          exact c "none" (by decide +kernel)
      · rw [if_neg h2]
        by_cases c1 : ¬ (0 ≤ n ∧ n ≤ 99)
        · rw [if_pos c1]; exact c "range" (by decide +kernel)
        · rw [if_neg c1]
          by_cases c2 : n ∈ h.map (·.1)
          · rw [if_pos c2]; exact c "taken" (by decide +kernel)
          · rw [if_neg c2]
            by_cases c3 : isTxt z = false
            · rw [if_pos c3]; exact c "bad" (by decide +kernel)
            · rw [if_neg c3]
              by_cases c4 : 8 ≤ h.length
              · rw [if_pos c4]; exact c "many" (by decide +kernel)
              · rw [if_neg c4]
                exact ⟨by show PyData.strOk ("house" : Str) = true; decide +kernel, dH_lay (letAll_ins a (isTxt_let (by simpa using c3))), dH_depth _⟩
  exact dT_shaped key.1 key.2.1 key.2.2
theorem tryable_let {z : Str} (h : IsLet z) (hl : z.length ≤ 40) : Tryable z := by
  refine ⟨Nat.le_trans hl (by decide), ?_, let_ok h⟩
  have e1 : isTxt z = true := by
    unfold isTxt
    rw [decide_eq_true hl]
    exact h
  have e2 : decide (10 ∈ z.cps.toList) = false := decide_eq_false fun m => absurd (List.all_eq_true.mp h 10 m) (by decide)
  rw [e1, e2, decide_eq_true hl]
  rfl
theorem tryable_long : Tryable (Txt.join "" (List.replicate 41 (⟨#[98]⟩ : Str))) := by
  refine ⟨by rw [join_len]; decide, ?_, ?_⟩
  · rw [isTxt_long (by rw [join_len]; decide), join_len]
    rfl
  · unfold PyData.strOk
    rw [← Array.all_toList]
    refine List.all_eq_true.mpr fun c hc => ?_
    rw [join_mem hc]
    rfl
/-- the law: a list of at most 63 whole numbers, True -/
def spLaw (K : PySem.W.Frag) : Sp := fun vs H Q _ => ∃ (a : Addr) (ns : List Int), vs = [.ref a] ∧ SqL K H a (ns.map V.int) ∧ ns.length ≤ 63 ∧ ∀ H', Q (.bl true) H'
theorem sc_law : FnScope ["script", "draws", "house", "kept", "turn", "number", "text", "word", "told", "k"] ["script"] (defScope s_law) := ⟨rfl, rfl, rfl, by decide +kernel, rfl, by decide +kernel, by decide +kernel⟩
theorem ok_law (T : Txt K mg ea) {f : Addr} {fd : FuncData} (F : Fun K "law" "law" s_law f fd) (c__law_draws : Cl P w K mg base 1 "_law_draws" (spDraws K)) (c__law_at : Cl P w K mg base 1 "_law_at" (spDraw K)) (c__law_house : Cl P w K mg base 3 "_law_house" (spHouse K))
    (c_is_house : Cl P w K mg base 3 "is_house" (spIsHouse K)) (c__law_spoilt : Cl P w K mg base 2 "_law_spoilt" (spSpoilt K)) (c__law_text : Cl P w K mg base 2 "_law_text" (spText K)) (c__law_told : Cl P w K mg base 4 "_law_told" (spTold K)) (c__law_due : Cl P w K mg base 1 "_law_due" (spDue K)) :
    FnOk P w K mg base CX0 5 f fd ["script"] (spLaw K) := by
  have nd := sc_law.nd
  refine F.ok sc_law (fun vs H Q E h => ?_) (fun cdv A outer s H vs Q E hr h => ?_)
  · obtain ⟨a, ns, rfl, _⟩ := h
    rfl
  · obtain ⟨a, ns, rfl, hS, hl, q⟩ := h
    refine ⟨_, (pss_cons (ps_set (i := 1) nd rfl (.inl rfl) (C8.pe_c c__law_draws hr (by decide) (by rfl) (pa_cons (pv 0) pa_nil)))
      (pss_cons (ps_set (i := 2) nd rfl (.inl rfl) (C8.pe_c c__law_house hr (by decide) (by rfl) (pa_cons (pv 1) (pa_cons pe_int (pa_cons pe_int (pa_cons (pe_ix (ixl (K := K)) (pe_lst (pa_cons pe_int (pa_cons pe_int pa_nil))) (pe_callTy call_int1 (by rfl) T.b_int (by decide +kernel) (pa_cons (pe_cmpR op_eq (C8.pe_c c__law_at hr (by decide) (by rfl) (pa_cons (pv 1) (pa_cons pe_int (pa_cons pe_int pa_nil)))) pe_int (nomark _)) pa_nil)) (fun _ _ => rfl)) pa_nil))))))
      (pss_cons (ps_set (i := 3) nd rfl (.inl rfl) (pe_callTy call_list_of (by rfl) T.b_list (by decide +kernel) (pa_cons (pv 2) pa_nil)))
      (pss_cons (ps_if (PW.pt (pw_or (pt_cmpR op_isnot_bl (C8.pe_c c_is_house hr (by decide) (by rfl) (pa_cons (pv 2) pa_nil)) pe_bl (nomark _)) (pw_or (pt_cmpR op_isnot_bl (C8.pe_c c_is_house hr (by decide) (by rfl) (pa_cons (C8.pe_c c__law_spoilt hr (by decide) (by rfl) (pa_cons (pv 1) (pa_cons (pv 2) pa_nil))) pa_nil)) pe_bl (nomark _)) (pw_or1 (pt_cmpR op_isnot_bl (C8.pe_c c_is_house hr (by decide) (by rfl) (pa_cons (pe_lst pa_nil) pa_nil)) pe_bl (nomark _))))))
        (pss_one (ps_ret pe_bl))
        pss_nil)
      (pss_cons (ps_for PassesOwn.never rfl (pi_range1 rfl T.b_range (pa_cons pe_int pa_nil)) (pg_name (i := 4) nd rfl (.inl rfl))
        (pss_cons (ps_set (i := 5) nd rfl (.inl rfl) (pe_op op_sub (C8.pe_c c__law_at hr (by decide) (by rfl) (pa_cons (pv 1) (pa_cons (pe_op op_add pe_int (pv 4)) (pa_cons pe_int pa_nil)))) pe_int))
          (C8.pss_cut (ps_if (PW.pt (pw_and (pt_cmpR op_gt (pv 4) pe_int (nomark _)) (pw_and1 (pt_cmpR op_gt (pe_callB call_len_seq (by rfl) T.b_len PySem.boot_len (pa_cons (pv 2) pa_nil)) pe_int (nomark _)))))
            (pss_one (ps_set (i := 5) nd rfl (.inl rfl) (pe_ix (ixt (K := K)) (pe_ix (ixl (K := K)) (pv 2) (C8.pe_c c__law_at hr (by decide) (by rfl) (pa_cons (pv 1) (pa_cons (pe_op op_add pe_int (pv 4)) (pa_cons (pe_callB call_len_seq (by rfl) T.b_len PySem.boot_len (pa_cons (pv 2) pa_nil)) pa_nil)))) (fun _ _ => rfl)) pe_int (fun _ _ => rfl))))
            pss_nil)
          (pss_cons (ps_set (i := 6) nd rfl (.inl rfl) (pe_ix (ixl (K := K)) (pe_lst (pa_cons (C8.pe_c c__law_text hr (by decide) (by rfl) (pa_cons (pv 1) (pa_cons (pe_op op_add pe_int (pv 4)) (pa_cons pe_int pa_nil)))) (pa_cons pe_str (pa_cons (pe_join pe_str (pe_lc (own := [("k", 9)]) (g := (gName 9)) rfl nd (pi_range1 rfl T.b_range (pa_cons pe_int pa_nil)) (blkOk_by (own := [("k", 9)]) (N := ["script", "draws", "house", "kept", "turn", "number", "text", "word", "told", "k"]) (sc := defScope s_law) (by decide +kernel)) (fun _ _ _ _ _ => (pg_name (i := 9) nd rfl (.inl rfl))) (fun _ _ _ _ _ => pts_nil) (fun _ _ _ _ _ => pe_str))) pa_nil)))) (C8.pe_c c__law_at hr (by decide) (by rfl) (pa_cons (pv 1) (pa_cons (pe_op op_add pe_int (pv 4)) (pa_cons pe_int pa_nil)))) (fun _ _ => rfl)))
          (pss_one (ps_for PassesOwn.never rfl (pi_range1 rfl T.b_range (pa_cons pe_int pa_nil)) (pg_name (i := 7) nd rfl (.inl rfl))
            (pss_cons (ps_set (i := 8) nd rfl (.inl rfl) (C8.pe_c c__law_told hr (by decide) (by rfl) (pa_cons (pv 2) (pa_cons (pv 5) (pa_cons (pv 6) (pa_cons (pv 7) pa_nil))))))
              (pss_cons (ps_if (PW.pt (pw_or (pt_cmpR (op_neD hr.units) (pv 8) (C8.pe_c c__law_due hr (by decide) (by rfl) (pa_cons (pv 3) (pa_cons (pv 5) (pa_cons (pv 6) (pa_cons (pv 7) pa_nil))))) (nomark _)) (pw_or1 (pt_cmpR (op_neD hr.units) (pv 2) (pv 3) (nomark _)))))
                (pss_one (ps_ret pe_bl))
                pss_nil)
              (pss_one (ps_if (pt_cmpR op_eq (pe_ix (ixt (K := K)) (pv 8) pe_int (fun _ _ => rfl)) pe_str (nomark _))
                (pss_cons (ps_expr (pe_bm PySem.F.plainAttrs_list PySem.F.slot_list_append PySem.F.type_list_append mt_append (pe_ix (ixt (K := K)) (pv 8) pe_int (fun _ _ => rfl)) (pa_cons (pe_tup (pa_cons pe_int (pa_cons pe_str pa_nil))) pa_nil)))
                  (pss_one (ps_if (pt_cmpR (op_neD hr.units) (pv 2) (pv 3) (nomark _))
                    (pss_one (ps_ret pe_bl))
                    pss_nil)))
                pss_nil))))))))))
      (pss_one (ps_ret pe_bl))))))), ?_⟩
    have sz : 2 ≤ sizeLine := by decide
    -- draws
    refine ⟨_, rfl, a, ns, rfl, hS, hl, fun dr ds H1 s1 nd1 at1 hD => ?_⟩
    have hS1 : SqL K H1 dr (ds.map V.int) := .inl (.inl at1)
    -- house
    refine ⟨_, rfl, sz, fun l nl => ?_⟩
    have s2 := same_new (o := .lst [.int 12, .int 40]) nl
    refine ⟨_, rfl, dr, ds, 2, 8, rfl, s2.seq hS1, hD, by omega, by omega, by omega, fun r _ _ => ?_⟩
    refine ⟨rfl, .inr ⟨_, rfl, ?_⟩⟩
    obtain ⟨most, hm, ho⟩ : ∃ m : Nat, m ≤ 40 ∧ atI [V.int 12, V.int 40] (if decide (V.int r = V.int 3) = true then 1 else 0) = some (.int m) := by
      by_cases c : decide (V.int r = V.int 3) = true
      · rw [if_pos c]
        exact ⟨40, by decide, atI_nat (j := 1) rfl⟩
      · rw [if_neg c]
        exact ⟨12, by decide, atI_nat (j := 0) rfl⟩
    refine ⟨l, _, _, _, rfl, rfl, .inl (.inl upd_same), ho, dr, ds, 12, 8, most, rfl, s2.seq hS1, hD, by omega, by omega, by omega, hm, fun hp L H2 s3 nh at2 hpr hlen hh0 => ?_⟩
    have hh : IsHs 40 (L.map (·.2)) := ⟨hh0.asc, hh0.num, fun x hx => ⟨(hh0.txt x hx).1, Nat.le_trans (hh0.txt x hx).2 hm⟩⟩
    have rl := refs_len L
    have hA2 : HsAt K H2 hp L := ⟨.inl (.inl at2), hpr⟩
    have hS2 : SqL K H2 dr (ds.map V.int) := (s2.trans s3).seq hS1
    -- kept
    refine ⟨_, rfl, hp, _, rfl, .inl hA2.1, fun kp nk => ?_⟩
    have s4 := same_new (o := .lst (refs L)) nk
    -- from here on what stands at the heap H0 stays
    generalize e0 : upd H2 kp (.lst (refs L)) = H0 at s4 ⊢
    have hA0 : HsAt K H0 hp L := hA2.same s4
    have hK0 : HsAt K H0 kp L := ⟨.inl (.inl (by rw [← e0]; exact upd_same)), hpr.same s4⟩
    have hS0 : SqL K H0 dr (ds.map V.int) := s4.seq hS2
    have at0 : H0 hp = some (.lst (refs L)) := s4 _ _ at2
    have ht : ∀ x ∈ L, x.2.2.length ≤ 1000 := fun x hx => Nat.le_trans (hh.txt x.2 (List.mem_map_of_mem hx)).2 (by decide)
    have lets := hh.letAll
    have isT : isH (L.map (·.2)) = true := by
      unfold isH
      rw [decide_eq_true (by rw [List.length_map]; exact hlen), Bool.true_and]
      refine chk_of (Nat.le_refl 40) _ _ (fun x hx => ?_) hh
      have := (hh.num x hx).1
      omega
    have same2 : ∀ {H3 : Hp} {R : VK}, Same H0 H3 → R (.bl false) H3 → rNeD K (.ref hp) (.ref kp) H3 R := fun {H3 R} e k => by
      refine ⟨_, _, dp_house (hA0.same e), dp_house (hK0.same e), dH_shaped lets, dH_shaped lets, ?_⟩
      rw [dH_refl lets]
      exact k
    -- the three answers of is_house
    refine ⟨_, rfl, hp, L, rfl, hA0, by omega, ht, fun H3 s5 => ?_⟩
    rw [isT]
    refine ⟨_, _, rfl, rfl, _, rfl, iteF ?_⟩
    refine ⟨_, rfl, _, rfl, dr, hp, ds, L, rfl, s5.seq hS0, hD, s5 _ _ at0, hA0.2.same s5, hlen, hh, fun sp L2 H4 s6 hA4 l4 t4 f4 => ?_⟩
    refine ⟨sp, L2, rfl, hA4, l4, t4, fun H5 s7 => ?_⟩
    rw [f4]
    refine ⟨_, _, rfl, rfl, _, rfl, iteF ?_⟩
    refine ⟨Nat.zero_le _, fun em ne => ?_⟩
    have s8 := same_new (o := .lst []) ne
    refine ⟨em, [], rfl, ⟨.inl (.inl upd_same), fun x hx => nomatch hx⟩, Nat.zero_le _, (fun x hx => nomatch hx), fun H6 s9 => ?_⟩
    refine ⟨_, _, rfl, rfl, _, rfl, iteF ?_⟩
    have s06 : Same H0 H6 := ((s5.trans s6).trans s7).trans (s8.trans s9)
    -- the turns
    refine ⟨5, rfl, by decide, by decide, ?_⟩
    refine for_range (lo := 0) (n := 5) (fun i σ H' => ∃ (y4 y5 y6 y7 y8 : Option V), σ = [some (.ref a), some (.ref dr), some (.ref hp), some (.ref kp), y4, y5, y6, y7, y8, none] ∧ Same H0 H')
      ⟨none, none, none, none, none, rfl, s06⟩ (fun i σ H' hi hW => ?_) (fun σ H' hW => ?_)
    · obtain ⟨y4, y5, y6, y7, y8, rfl, sm⟩ := hW
      -- the number
      refine ⟨_, rfl, _, rfl, _, _, rfl, rfl, dr, ds, 3 + (0 + (i : Int)), 110, rfl, sm.seq hS0, hD, by omega, by omega, by omega, fun r r0 r1 => ⟨_, _, rfl, rfl, ?_⟩⟩
      refine ⟨fun σ2 H2 => ∃ n : Int, Small n ∧ Same H0 H2 ∧ σ2 = [some (.ref a), some (.ref dr), some (.ref hp), some (.ref kp), some (.int (0 + (i : Int))), some (.int n), y6, y7, y8, none], ?_, ?_⟩
      · have base : Small (r - 5) := small_of (by omega) (by omega)
        refine ⟨_, rfl, _, _, rfl, rfl, _, rfl, ite2 (fun e => ?_) (fun e => iteF ⟨_, base, sm, rfl⟩)⟩
        refine ⟨_, rfl, hp, _, rfl, .inl (sm.seq hA0.1), _, _, rfl, rfl, _, rfl, ite2 (fun e2 => ?_) (fun e2 => ⟨_, base, sm, rfl⟩)⟩
        have e3 := of_decide_eq_true e2
        refine ⟨_, rfl, _, rfl, _, rfl, _, _, rfl, rfl, _, rfl, hp, _, rfl, .inl (sm.seq hA0.1), dr, ds, 3 + (0 + (i : Int)), _, rfl, sm.seq hS0, hD, by omega, by omega, e3, fun r2 r20 r21 => ?_⟩
        obtain ⟨t, hx, tm⟩ := at_map (fun q : Addr × Int × Str => V.ref q.1) (xs := L) (i := r2) r20 (by omega)
        refine ⟨hp, _, _, _, rfl, rfl, sm.seq hA0.1, hx, _, _, _, _, rfl, rfl, same_tup sm (hA0.2 t tm), (show atI [V.int t.2.1, V.str t.2.2] 0 = some (.int t.2.1) from rfl), t.2.1, ?_, sm, rfl⟩
        have := hh.num t.2 (List.mem_map_of_mem tm)
        exact small_of (by omega) (by omega)
      · rintro σ2 H2 ⟨n, hn, sm2, rfl⟩
        -- the text
        refine ⟨_, rfl, _, rfl, _, _, rfl, rfl, dr, ds, 60 + (0 + (i : Int)), 9, rfl, sm2.seq hS0, hD, by omega, by omega, by decide, fun z H3 s3 hz hzl => ?_⟩
        refine ⟨⟨_, rfl⟩, 41, rfl, by decide, by decide, fun D hD2 => ?_⟩
        refine lc_w (walk_range (lo := 0) (n := 41)) hD2 (by decide) (fun _ _ => trivial) (fun j acc _ => acc = (List.replicate j (⟨#[98]⟩ : Str)).map V.str) (fun _ _ => rfl)
          (fun _ _ _ _ _ _ _ r => r) (fun i H x H' y => by rw [y.1]; exact Same.refl _) (fun j x acc H4 H5 Qn Qf hj sm y ra at_ kn kf => ?_) (fun acc H4 s4 at_ _ ra => ?_)
        · obtain ⟨rfl, rfl⟩ := y
          refine ⟨rfl, kn _ _ (Same.refl _) ?_⟩
          rw [ra, List.replicate_succ', List.map_append]
          rfl
        refine ⟨"", D, List.replicate 41 ⟨#[98]⟩, rfl, rfl, .inl (.inl (.inl (by rw [at_, ra]))), ?_, ?_⟩
        · rw [List.map_replicate, List.sum_replicate_nat, List.length_replicate]
          decide
        refine ⟨(by show 3 ≤ sizeLine; decide), fun tl ntl => ?_⟩
        let zs : List Str := [z, "a\nb", Txt.join "" (List.replicate 41 ⟨#[98]⟩)]
        have s34 := (sm2.trans s3).trans s4
        have s5 := same_new (o := .lst (zs.map V.str)) ntl
        refine ⟨_, rfl, _, rfl, _, _, rfl, rfl, dr, ds, 8 + (0 + (i : Int)), 3, rfl, (s34.trans s5).seq hS0, hD, by omega, by omega, by omega, fun r2 r20 r21 => ?_⟩
        obtain ⟨tx, htx, txm⟩ := at_map V.str (xs := zs) (i := r2) r20 r21
        have htry : Tryable tx := by
          simp only [zs, List.mem_cons, List.not_mem_nil, or_false] at txm
          rcases txm with e | e | e
          · rw [e]; exact tryable_let hz (by omega)
          · rw [e]; exact ⟨by decide, by decide, by decide +kernel⟩
          · rw [e]; exact tryable_long
        refine ⟨tl, _, _, _, rfl, rfl, .inl (.inl upd_same), htx, ?_⟩
        have s05 := s34.trans s5
        -- the words
        refine ⟨3, rfl, by decide, by decide, ?_⟩
        refine for_range (lo := 0) (n := 3) (fun j σ H' => ∃ (y7 y8 : Option V), σ = [some (.ref a), some (.ref dr), some (.ref hp), some (.ref kp), some (.int (0 + (i : Int))), some (.int n), some (.str tx), y7, y8, none] ∧ Same H0 H')
          ⟨y7, y8, rfl, s05⟩ (fun j σ H' hj hW => ?_) (fun σ H' hW => ?_)
        · obtain ⟨y7, y8, rfl, sm⟩ := hW
          refine ⟨_, rfl, _, rfl, _, rfl, _, rfl, hp, L, n, tx, 0 + (j : Int), rfl, hA0.same sm, hlen, hh, hn, htry.1, by omega, by omega, fun v H7 s7 told => ?_⟩
          have s07 := sm.trans s7
          refine ⟨_, rfl, _, rfl, _, rfl, _, rfl, _, rfl, kp, L, n, tx, 0 + (j : Int), rfl, hK0.same s07, hlen, hh, htry, by omega, by omega, fun v2 H8 s8 due => ?_⟩
          have s08 := s07.trans s8
          obtain ⟨t, x, rfl, ht1, hx1, hx2⟩ := told
          obtain ⟨t2, x2, rfl, ht2, hx3⟩ := due
          obtain ⟨sh, ev⟩ := due_ok (n := n) (z := tx) (word := 0 + (j : Int)) lets
          have ht8 := s8 _ _ ht1
          -- told is due
          refine ⟨_, _, .tup (.inl (.inl ht8)) (.cons (.str _) (.cons (dp_same s8 hx1) .nil)), .tup (.inl (.inl ht2)) (.cons (.str _) (.cons hx3 .nil)), sh, sh, ?_⟩
          have ev2 : PyData.eqv (.tuple [.str (dueOf (L.map (·.2)) n tx (0 + (j : Int))).1, (dueOf (L.map (·.2)) n tx (0 + (j : Int))).2]) (.tuple [.str (dueOf (L.map (·.2)) n tx (0 + (j : Int))).1, (dueOf (L.map (·.2)) n tx (0 + (j : Int))).2]) = true := ev
          rw [ev2]
          refine ⟨_, rfl, iteF ⟨_, rfl, _, rfl, same2 s08 ⟨_, rfl, iteF ?_⟩⟩⟩
          -- a house that is told is changed
          refine ⟨_, rfl, t, _, 0, _, rfl, rfl, .inl (.inl ht8), (show atI [V.str (dueOf (L.map (·.2)) n tx (0 + (j : Int))).1, x] 0 = some (.str (dueOf (L.map (·.2)) n tx (0 + (j : Int))).1) from rfl), rfl, _, rfl, ite2 (fun e => ?_) (fun e => ?_)⟩
          · have etag : (dueOf (L.map (·.2)) n tx (0 + (j : Int))).1 = "house" := by have := of_decide_eq_true e; injection this
            obtain ⟨hl2, xs, rfl, nl2, at7, lx⟩ := hx2 etag
            have at8 := s8 _ _ at7
            refine ⟨_, rfl, t, _, 1, _, rfl, rfl, .inl (.inl ht8), (show atI [V.str (dueOf (L.map (·.2)) n tx (0 + (j : Int))).1, V.ref hl2] 1 = some (.ref hl2) from rfl), .inl ⟨rfl, _, SqL.of at8⟩, sz, fun u nu => ?_⟩
            have s9 := same_new (o := .tup [.int 100, .str ""]) nu
            refine ⟨hl2, xs, _, rfl, rfl, s9 _ _ at8, Nat.lt_of_le_of_lt lx (by decide), ?_⟩
            have s10 : Same H0 (upd (upd H8 u (.tup [.int 100, .str ""])) hl2 (.lst (xs ++ [.ref u]))) := same_mut (s08.trans s9) (sm.free nl2)
            exact ⟨_, rfl, _, rfl, same2 s10 ⟨_, rfl, iteF ⟨_, _, rfl, s10⟩⟩⟩
          · exact ⟨_, _, rfl, s08⟩
        · obtain ⟨y7, y8, rfl, sm⟩ := hW
          exact ⟨_, _, _, _, _, rfl, sm⟩
    · exact q H'
end

end SH
set_option Elab.async false
set_option linter.all false
set_option maxRecDepth 100000
set_option maxHeartbeats 4000000
namespace SH
open PySem PySem.Spec PyProof.Rows L2
theorem law_all {P : Program} {w : World} {K : PySem.W.Frag} {mg : Str → Option Value} {base : Heap} {ea : Ea} {f : Addr} {fd : FuncData} (T : Txt K mg ea) (F : Fun K "law" "law" s_law f fd) : FnOk P w K mg base CX0 5 f fd ["script"] (spLaw K) :=
  have mix := ok__law_mix (P := P) (w := w) (base := base) T
  have at_ := ok__law_at (P := P) (w := w) (base := base) T
  have text := ok__law_text T mix (ok__law_letter T)
  have ist := ok__is_text (P := P) (w := w) (base := base) T (ok__is_letter T)
  have has := ok__has_number (P := P) (w := w) (base := base) T
  ok_law T F (ok__law_draws T) at_ (ok__law_house T mix text) (ok_is_house T ist) (ok__law_spoilt T at_) text
    (ok__law_told T (ok_text_of T) (ok_with_text T has ist) (ok_without_text T has)) (ok__law_due T)
theorem all_mk {P : Program} {w : World} {K : PySem.W.Frag} {h : Heap} {mg : Str → Option Value} {fa : Addr} (X : K.In h) (G : h.Ns mainGlobals mg) (hfa : mg "law" = some (.ref fa))
    {t__GREATEST_NUMBER : Tok}
    {t__MOST_LETTERS : Tok}
    {t__MOST_TEXTS : Tok}
    {t__PERCENT_SIGN : Tok}
    {f_is_house f_text_of f_with_text f_without_text f__is_text f__is_letter f__has_number f__law_draws f__law_at f__law_mix f__law_letter f__law_text f__law_house f__law_spoilt f__law_told f__law_due f_law : Addr}
    {od_is_house an_is_house od_text_of an_text_of od_with_text an_with_text od_without_text an_without_text od__is_text an__is_text od__is_letter an__is_letter od__has_number an__has_number od__law_draws an__law_draws od__law_at an__law_at od__law_mix an__law_mix od__law_letter an__law_letter od__law_text an__law_text od__law_house an__law_house od__law_spoilt an__law_spoilt od__law_told an__law_told od__law_due an__law_due od_law an_law : Option Addr}
    {sl_is_house sl_text_of sl_with_text sl_without_text sl__is_text sl__is_letter sl__has_number sl__law_draws sl__law_at sl__law_mix sl__law_letter sl__law_text sl__law_house sl__law_spoilt sl__law_told sl__law_due sl_law : Array (Option Value)}
    {oc_is_house kV_is_house dc_is_house pm_is_house cd_is_house ct_is_house oc_text_of kV_text_of dc_text_of pm_text_of cd_text_of ct_text_of oc_with_text kV_with_text dc_with_text pm_with_text cd_with_text ct_with_text oc_without_text kV_without_text dc_without_text pm_without_text cd_without_text ct_without_text oc__is_text kV__is_text dc__is_text pm__is_text cd__is_text ct__is_text oc__is_letter kV__is_letter dc__is_letter pm__is_letter cd__is_letter ct__is_letter oc__has_number kV__has_number dc__has_number pm__has_number cd__has_number ct__has_number oc__law_draws kV__law_draws dc__law_draws pm__law_draws cd__law_draws ct__law_draws oc__law_at kV__law_at dc__law_at pm__law_at cd__law_at ct__law_at oc__law_mix kV__law_mix dc__law_mix pm__law_mix cd__law_mix ct__law_mix oc__law_letter kV__law_letter dc__law_letter pm__law_letter cd__law_letter ct__law_letter oc__law_text kV__law_text dc__law_text pm__law_text cd__law_text ct__law_text oc__law_house kV__law_house dc__law_house pm__law_house cd__law_house ct__law_house oc__law_spoilt kV__law_spoilt dc__law_spoilt pm__law_spoilt cd__law_spoilt ct__law_spoilt oc__law_told kV__law_told dc__law_told pm__law_told cd__law_told ct__law_told oc__law_due kV__law_due dc__law_due pm__law_due cd__law_due ct__law_due oc_law kV_law dc_law pm_law cd_law ct_law : Value}
    {fI : Addr} {odI anI : Option Addr} {slI : Array (Option Value)} {ocI kVI dcI pmI cdI ctI : Value}
    {C_HouseError N_HouseError C_BadText N_BadText C_TooMany N_TooMany C_TakenNumber N_TakenNumber C_NoText N_NoText C_OutOfRange N_OutOfRange : Addr}
    {nm_HouseError q_HouseError : Str} {bs_HouseError : List Value} {sn_HouseError : List Str} {sub_HouseError : List Value} {ab_HouseError : Bool} {col_HouseError : Option Bool} {dd_HouseError : Option Addr} {m0_HouseError m1_HouseError m2_HouseError m3_HouseError m5_HouseError : Option Value}
    {nm_BadText q_BadText : Str} {bs_BadText : List Value} {sn_BadText : List Str} {sub_BadText : List Value} {ab_BadText : Bool} {col_BadText : Option Bool} {dd_BadText : Option Addr} {m0_BadText m1_BadText m2_BadText m3_BadText m5_BadText : Option Value}
    {nm_TooMany q_TooMany : Str} {bs_TooMany : List Value} {sn_TooMany : List Str} {sub_TooMany : List Value} {ab_TooMany : Bool} {col_TooMany : Option Bool} {dd_TooMany : Option Addr} {m0_TooMany m1_TooMany m2_TooMany m3_TooMany m5_TooMany : Option Value}
    {nm_TakenNumber q_TakenNumber : Str} {bs_TakenNumber : List Value} {sn_TakenNumber : List Str} {sub_TakenNumber : List Value} {ab_TakenNumber : Bool} {col_TakenNumber : Option Bool} {dd_TakenNumber : Option Addr} {m0_TakenNumber m1_TakenNumber m2_TakenNumber m3_TakenNumber m5_TakenNumber : Option Value}
    {nm_NoText q_NoText : Str} {bs_NoText : List Value} {sn_NoText : List Str} {sub_NoText : List Value} {ab_NoText : Bool} {col_NoText : Option Bool} {dd_NoText : Option Addr} {m0_NoText m1_NoText m2_NoText m3_NoText m5_NoText : Option Value}
    {nm_OutOfRange q_OutOfRange : Str} {bs_OutOfRange : List Value} {sn_OutOfRange : List Str} {sub_OutOfRange : List Value} {ab_OutOfRange : Bool} {col_OutOfRange : Option Bool} {dd_OutOfRange : Option Addr} {m0_OutOfRange m1_OutOfRange m2_OutOfRange m3_OutOfRange m5_OutOfRange : Option Value}
    (z_abs : PySem.W.nsIn K mainGlobals "abs" = some none)
    (z_all : PySem.W.nsIn K mainGlobals "all" = some none)
    (z_int : PySem.W.nsIn K mainGlobals "int" = some none)
    (z_len : PySem.W.nsIn K mainGlobals "len" = some none)
    (z_list : PySem.W.nsIn K mainGlobals "list" = some none)
    (z_min : PySem.W.nsIn K mainGlobals "min" = some none)
    (z_ord : PySem.W.nsIn K mainGlobals "ord" = some none)
    (z_range : PySem.W.nsIn K mainGlobals "range" = some none)
    (z_sorted : PySem.W.nsIn K mainGlobals "sorted" = some none)
    (n__GREATEST_NUMBER : PySem.W.nsIn K mainGlobals "_GREATEST_NUMBER" = some (some (.int 99 t__GREATEST_NUMBER)))
    (n__MOST_LETTERS : PySem.W.nsIn K mainGlobals "_MOST_LETTERS" = some (some (.int 40 t__MOST_LETTERS)))
    (n__MOST_TEXTS : PySem.W.nsIn K mainGlobals "_MOST_TEXTS" = some (some (.int 8 t__MOST_TEXTS)))
    (n__PERCENT_SIGN : PySem.W.nsIn K mainGlobals "_PERCENT_SIGN" = some (some (.int 37 t__PERCENT_SIGN)))
    (a_is_house : PySem.W.nsIn K mainGlobals "is_house" = some (some (.ref f_is_house)))
    (l_is_house : K.lookup f_is_house = some ⟨oc_is_house, od_is_house, .func (PySem.W.fnOf "is_house" "is_house" (defArgs s_is_house) (defBody s_is_house) (defScope s_is_house) .none kV_is_house dc_is_house pm_is_house an_is_house cd_is_house ct_is_house), sl_is_house⟩)
    (c_is_house : PySem.W.codeIn K cd_is_house "is_house" = true)
    (k_is_house : PySem.W.keepIn K (.ref f_is_house) = true)
    (a_text_of : PySem.W.nsIn K mainGlobals "text_of" = some (some (.ref f_text_of)))
    (l_text_of : K.lookup f_text_of = some ⟨oc_text_of, od_text_of, .func (PySem.W.fnOf "text_of" "text_of" (defArgs s_text_of) (defBody s_text_of) (defScope s_text_of) .none kV_text_of dc_text_of pm_text_of an_text_of cd_text_of ct_text_of), sl_text_of⟩)
    (c_text_of : PySem.W.codeIn K cd_text_of "text_of" = true)
    (k_text_of : PySem.W.keepIn K (.ref f_text_of) = true)
    (a_with_text : PySem.W.nsIn K mainGlobals "with_text" = some (some (.ref f_with_text)))
    (l_with_text : K.lookup f_with_text = some ⟨oc_with_text, od_with_text, .func (PySem.W.fnOf "with_text" "with_text" (defArgs s_with_text) (defBody s_with_text) (defScope s_with_text) .none kV_with_text dc_with_text pm_with_text an_with_text cd_with_text ct_with_text), sl_with_text⟩)
    (c_with_text : PySem.W.codeIn K cd_with_text "with_text" = true)
    (k_with_text : PySem.W.keepIn K (.ref f_with_text) = true)
    (a_without_text : PySem.W.nsIn K mainGlobals "without_text" = some (some (.ref f_without_text)))
    (l_without_text : K.lookup f_without_text = some ⟨oc_without_text, od_without_text, .func (PySem.W.fnOf "without_text" "without_text" (defArgs s_without_text) (defBody s_without_text) (defScope s_without_text) .none kV_without_text dc_without_text pm_without_text an_without_text cd_without_text ct_without_text), sl_without_text⟩)
    (c_without_text : PySem.W.codeIn K cd_without_text "without_text" = true)
    (k_without_text : PySem.W.keepIn K (.ref f_without_text) = true)
    (a__is_text : PySem.W.nsIn K mainGlobals "_is_text" = some (some (.ref f__is_text)))
    (l__is_text : K.lookup f__is_text = some ⟨oc__is_text, od__is_text, .func (PySem.W.fnOf "_is_text" "_is_text" (defArgs s__is_text) (defBody s__is_text) (defScope s__is_text) .none kV__is_text dc__is_text pm__is_text an__is_text cd__is_text ct__is_text), sl__is_text⟩)
    (c__is_text : PySem.W.codeIn K cd__is_text "_is_text" = true)
    (k__is_text : PySem.W.keepIn K (.ref f__is_text) = true)
    (a__is_letter : PySem.W.nsIn K mainGlobals "_is_letter" = some (some (.ref f__is_letter)))
    (l__is_letter : K.lookup f__is_letter = some ⟨oc__is_letter, od__is_letter, .func (PySem.W.fnOf "_is_letter" "_is_letter" (defArgs s__is_letter) (defBody s__is_letter) (defScope s__is_letter) .none kV__is_letter dc__is_letter pm__is_letter an__is_letter cd__is_letter ct__is_letter), sl__is_letter⟩)
    (c__is_letter : PySem.W.codeIn K cd__is_letter "_is_letter" = true)
    (k__is_letter : PySem.W.keepIn K (.ref f__is_letter) = true)
    (a__has_number : PySem.W.nsIn K mainGlobals "_has_number" = some (some (.ref f__has_number)))
    (l__has_number : K.lookup f__has_number = some ⟨oc__has_number, od__has_number, .func (PySem.W.fnOf "_has_number" "_has_number" (defArgs s__has_number) (defBody s__has_number) (defScope s__has_number) .none kV__has_number dc__has_number pm__has_number an__has_number cd__has_number ct__has_number), sl__has_number⟩)
    (c__has_number : PySem.W.codeIn K cd__has_number "_has_number" = true)
    (k__has_number : PySem.W.keepIn K (.ref f__has_number) = true)
    (a__law_draws : PySem.W.nsIn K mainGlobals "_law_draws" = some (some (.ref f__law_draws)))
    (l__law_draws : K.lookup f__law_draws = some ⟨oc__law_draws, od__law_draws, .func (PySem.W.fnOf "_law_draws" "_law_draws" (defArgs s__law_draws) (defBody s__law_draws) (defScope s__law_draws) .none kV__law_draws dc__law_draws pm__law_draws an__law_draws cd__law_draws ct__law_draws), sl__law_draws⟩)
    (c__law_draws : PySem.W.codeIn K cd__law_draws "_law_draws" = true)
    (k__law_draws : PySem.W.keepIn K (.ref f__law_draws) = true)
    (a__law_at : PySem.W.nsIn K mainGlobals "_law_at" = some (some (.ref f__law_at)))
    (l__law_at : K.lookup f__law_at = some ⟨oc__law_at, od__law_at, .func (PySem.W.fnOf "_law_at" "_law_at" (defArgs s__law_at) (defBody s__law_at) (defScope s__law_at) .none kV__law_at dc__law_at pm__law_at an__law_at cd__law_at ct__law_at), sl__law_at⟩)
    (c__law_at : PySem.W.codeIn K cd__law_at "_law_at" = true)
    (k__law_at : PySem.W.keepIn K (.ref f__law_at) = true)
    (a__law_mix : PySem.W.nsIn K mainGlobals "_law_mix" = some (some (.ref f__law_mix)))
    (l__law_mix : K.lookup f__law_mix = some ⟨oc__law_mix, od__law_mix, .func (PySem.W.fnOf "_law_mix" "_law_mix" (defArgs s__law_mix) (defBody s__law_mix) (defScope s__law_mix) .none kV__law_mix dc__law_mix pm__law_mix an__law_mix cd__law_mix ct__law_mix), sl__law_mix⟩)
    (c__law_mix : PySem.W.codeIn K cd__law_mix "_law_mix" = true)
    (k__law_mix : PySem.W.keepIn K (.ref f__law_mix) = true)
    (a__law_letter : PySem.W.nsIn K mainGlobals "_law_letter" = some (some (.ref f__law_letter)))
    (l__law_letter : K.lookup f__law_letter = some ⟨oc__law_letter, od__law_letter, .func (PySem.W.fnOf "_law_letter" "_law_letter" (defArgs s__law_letter) (defBody s__law_letter) (defScope s__law_letter) .none kV__law_letter dc__law_letter pm__law_letter an__law_letter cd__law_letter ct__law_letter), sl__law_letter⟩)
    (c__law_letter : PySem.W.codeIn K cd__law_letter "_law_letter" = true)
    (k__law_letter : PySem.W.keepIn K (.ref f__law_letter) = true)
    (a__law_text : PySem.W.nsIn K mainGlobals "_law_text" = some (some (.ref f__law_text)))
    (l__law_text : K.lookup f__law_text = some ⟨oc__law_text, od__law_text, .func (PySem.W.fnOf "_law_text" "_law_text" (defArgs s__law_text) (defBody s__law_text) (defScope s__law_text) .none kV__law_text dc__law_text pm__law_text an__law_text cd__law_text ct__law_text), sl__law_text⟩)
    (c__law_text : PySem.W.codeIn K cd__law_text "_law_text" = true)
    (k__law_text : PySem.W.keepIn K (.ref f__law_text) = true)
    (a__law_house : PySem.W.nsIn K mainGlobals "_law_house" = some (some (.ref f__law_house)))
    (l__law_house : K.lookup f__law_house = some ⟨oc__law_house, od__law_house, .func (PySem.W.fnOf "_law_house" "_law_house" (defArgs s__law_house) (defBody s__law_house) (defScope s__law_house) .none kV__law_house dc__law_house pm__law_house an__law_house cd__law_house ct__law_house), sl__law_house⟩)
    (c__law_house : PySem.W.codeIn K cd__law_house "_law_house" = true)
    (k__law_house : PySem.W.keepIn K (.ref f__law_house) = true)
    (a__law_spoilt : PySem.W.nsIn K mainGlobals "_law_spoilt" = some (some (.ref f__law_spoilt)))
    (l__law_spoilt : K.lookup f__law_spoilt = some ⟨oc__law_spoilt, od__law_spoilt, .func (PySem.W.fnOf "_law_spoilt" "_law_spoilt" (defArgs s__law_spoilt) (defBody s__law_spoilt) (defScope s__law_spoilt) .none kV__law_spoilt dc__law_spoilt pm__law_spoilt an__law_spoilt cd__law_spoilt ct__law_spoilt), sl__law_spoilt⟩)
    (c__law_spoilt : PySem.W.codeIn K cd__law_spoilt "_law_spoilt" = true)
    (k__law_spoilt : PySem.W.keepIn K (.ref f__law_spoilt) = true)
    (a__law_told : PySem.W.nsIn K mainGlobals "_law_told" = some (some (.ref f__law_told)))
    (l__law_told : K.lookup f__law_told = some ⟨oc__law_told, od__law_told, .func (PySem.W.fnOf "_law_told" "_law_told" (defArgs s__law_told) (defBody s__law_told) (defScope s__law_told) .none kV__law_told dc__law_told pm__law_told an__law_told cd__law_told ct__law_told), sl__law_told⟩)
    (c__law_told : PySem.W.codeIn K cd__law_told "_law_told" = true)
    (k__law_told : PySem.W.keepIn K (.ref f__law_told) = true)
    (a__law_due : PySem.W.nsIn K mainGlobals "_law_due" = some (some (.ref f__law_due)))
    (l__law_due : K.lookup f__law_due = some ⟨oc__law_due, od__law_due, .func (PySem.W.fnOf "_law_due" "_law_due" (defArgs s__law_due) (defBody s__law_due) (defScope s__law_due) .none kV__law_due dc__law_due pm__law_due an__law_due cd__law_due ct__law_due), sl__law_due⟩)
    (c__law_due : PySem.W.codeIn K cd__law_due "_law_due" = true)
    (k__law_due : PySem.W.keepIn K (.ref f__law_due) = true)
    (a_law : PySem.W.nsIn K mainGlobals "law" = some (some (.ref f_law)))
    (l_law : K.lookup f_law = some ⟨oc_law, od_law, .func (PySem.W.fnOf "law" "law" (defArgs s_law) (defBody s_law) (defScope s_law) .none kV_law dc_law pm_law an_law cd_law ct_law), sl_law⟩)
    (c_law : PySem.W.codeIn K cd_law "law" = true)
    (k_law : PySem.W.keepIn K (.ref f_law) = true)
    (xg_HouseError : PySem.W.nsIn K mainGlobals "HouseError" = some (some (.ref C_HouseError)))
    (xx_HouseError : K.lookup C_HouseError = some (excClassObj nm_HouseError q_HouseError C_HouseError N_HouseError bs_HouseError [.type "ValueError", .type "Exception", .type "BaseException", .type "object"] true sn_HouseError sub_HouseError ab_HouseError col_HouseError dd_HouseError m0_HouseError m1_HouseError m2_HouseError m3_HouseError m5_HouseError "ValueError.__new__"))
    (xs_HouseError : PySem.W.findIn K (.ref C_HouseError) "__setattr__" = some (some (.builtin "object.__setattr__")))
    (xga_HouseError : PySem.W.findIn K (.ref C_HouseError) "__getattribute__" = some (some (.builtin "BaseException.__getattribute__")))
    (xgg_HouseError : PySem.W.findIn K (.ref C_HouseError) "__getattr__" = some none)
    (xat_HouseError : PySem.W.findIn K (.ref C_HouseError) "at" = some none)
    (xi_HouseError : PySem.W.findIn K (.ref C_HouseError) "__init__" = some (some (.ref fI)))
    (xb_HouseError : PySem.W.subIn K (.ref C_HouseError) (.type "BaseException") = some true)
    (xt_HouseError : PySem.W.typeIn K (.ref C_HouseError) = some (.type "type"))
    (xh_HouseError : PySem.W.hasDictIn K C_HouseError = true)
    (xk_HouseError : PySem.W.keepIn K (.ref C_HouseError) = true)
    (xis_HouseError : PySem.W.isClsIn K C_HouseError = true)
    (xg_BadText : PySem.W.nsIn K mainGlobals "BadText" = some (some (.ref C_BadText)))
    (xx_BadText : K.lookup C_BadText = some (excClassObj nm_BadText q_BadText C_BadText N_BadText bs_BadText (.ref C_HouseError :: [.type "ValueError", .type "Exception", .type "BaseException", .type "object"]) true sn_BadText sub_BadText ab_BadText col_BadText dd_BadText m0_BadText m1_BadText m2_BadText m3_BadText m5_BadText "ValueError.__new__"))
    (xs_BadText : PySem.W.findIn K (.ref C_BadText) "__setattr__" = some (some (.builtin "object.__setattr__")))
    (xga_BadText : PySem.W.findIn K (.ref C_BadText) "__getattribute__" = some (some (.builtin "BaseException.__getattribute__")))
    (xgg_BadText : PySem.W.findIn K (.ref C_BadText) "__getattr__" = some none)
    (xat_BadText : PySem.W.findIn K (.ref C_BadText) "at" = some none)
    (xi_BadText : PySem.W.findIn K (.ref C_BadText) "__init__" = some (some (.ref fI)))
    (xb_BadText : PySem.W.subIn K (.ref C_BadText) (.type "BaseException") = some true)
    (xt_BadText : PySem.W.typeIn K (.ref C_BadText) = some (.type "type"))
    (xh_BadText : PySem.W.hasDictIn K C_BadText = true)
    (xk_BadText : PySem.W.keepIn K (.ref C_BadText) = true)
    (xis_BadText : PySem.W.isClsIn K C_BadText = true)
    (xg_TooMany : PySem.W.nsIn K mainGlobals "TooMany" = some (some (.ref C_TooMany)))
    (xx_TooMany : K.lookup C_TooMany = some (excClassObj nm_TooMany q_TooMany C_TooMany N_TooMany bs_TooMany (.ref C_HouseError :: [.type "ValueError", .type "Exception", .type "BaseException", .type "object"]) true sn_TooMany sub_TooMany ab_TooMany col_TooMany dd_TooMany m0_TooMany m1_TooMany m2_TooMany m3_TooMany m5_TooMany "ValueError.__new__"))
    (xs_TooMany : PySem.W.findIn K (.ref C_TooMany) "__setattr__" = some (some (.builtin "object.__setattr__")))
    (xga_TooMany : PySem.W.findIn K (.ref C_TooMany) "__getattribute__" = some (some (.builtin "BaseException.__getattribute__")))
    (xgg_TooMany : PySem.W.findIn K (.ref C_TooMany) "__getattr__" = some none)
    (xat_TooMany : PySem.W.findIn K (.ref C_TooMany) "at" = some none)
    (xi_TooMany : PySem.W.findIn K (.ref C_TooMany) "__init__" = some (some (.ref fI)))
    (xb_TooMany : PySem.W.subIn K (.ref C_TooMany) (.type "BaseException") = some true)
    (xt_TooMany : PySem.W.typeIn K (.ref C_TooMany) = some (.type "type"))
    (xh_TooMany : PySem.W.hasDictIn K C_TooMany = true)
    (xk_TooMany : PySem.W.keepIn K (.ref C_TooMany) = true)
    (xis_TooMany : PySem.W.isClsIn K C_TooMany = true)
    (xg_TakenNumber : PySem.W.nsIn K mainGlobals "TakenNumber" = some (some (.ref C_TakenNumber)))
    (xx_TakenNumber : K.lookup C_TakenNumber = some (excClassObj nm_TakenNumber q_TakenNumber C_TakenNumber N_TakenNumber bs_TakenNumber (.ref C_HouseError :: [.type "ValueError", .type "Exception", .type "BaseException", .type "object"]) true sn_TakenNumber sub_TakenNumber ab_TakenNumber col_TakenNumber dd_TakenNumber m0_TakenNumber m1_TakenNumber m2_TakenNumber m3_TakenNumber m5_TakenNumber "ValueError.__new__"))
    (xs_TakenNumber : PySem.W.findIn K (.ref C_TakenNumber) "__setattr__" = some (some (.builtin "object.__setattr__")))
    (xga_TakenNumber : PySem.W.findIn K (.ref C_TakenNumber) "__getattribute__" = some (some (.builtin "BaseException.__getattribute__")))
    (xgg_TakenNumber : PySem.W.findIn K (.ref C_TakenNumber) "__getattr__" = some none)
    (xat_TakenNumber : PySem.W.findIn K (.ref C_TakenNumber) "at" = some none)
    (xi_TakenNumber : PySem.W.findIn K (.ref C_TakenNumber) "__init__" = some (some (.ref fI)))
    (xb_TakenNumber : PySem.W.subIn K (.ref C_TakenNumber) (.type "BaseException") = some true)
    (xt_TakenNumber : PySem.W.typeIn K (.ref C_TakenNumber) = some (.type "type"))
    (xh_TakenNumber : PySem.W.hasDictIn K C_TakenNumber = true)
    (xk_TakenNumber : PySem.W.keepIn K (.ref C_TakenNumber) = true)
    (xis_TakenNumber : PySem.W.isClsIn K C_TakenNumber = true)
    (xg_NoText : PySem.W.nsIn K mainGlobals "NoText" = some (some (.ref C_NoText)))
    (xx_NoText : K.lookup C_NoText = some (excClassObj nm_NoText q_NoText C_NoText N_NoText bs_NoText (.ref C_HouseError :: [.type "ValueError", .type "Exception", .type "BaseException", .type "object"]) true sn_NoText sub_NoText ab_NoText col_NoText dd_NoText m0_NoText m1_NoText m2_NoText m3_NoText m5_NoText "ValueError.__new__"))
    (xs_NoText : PySem.W.findIn K (.ref C_NoText) "__setattr__" = some (some (.builtin "object.__setattr__")))
    (xga_NoText : PySem.W.findIn K (.ref C_NoText) "__getattribute__" = some (some (.builtin "BaseException.__getattribute__")))
    (xgg_NoText : PySem.W.findIn K (.ref C_NoText) "__getattr__" = some none)
    (xat_NoText : PySem.W.findIn K (.ref C_NoText) "at" = some none)
    (xi_NoText : PySem.W.findIn K (.ref C_NoText) "__init__" = some (some (.ref fI)))
    (xb_NoText : PySem.W.subIn K (.ref C_NoText) (.type "BaseException") = some true)
    (xt_NoText : PySem.W.typeIn K (.ref C_NoText) = some (.type "type"))
    (xh_NoText : PySem.W.hasDictIn K C_NoText = true)
    (xk_NoText : PySem.W.keepIn K (.ref C_NoText) = true)
    (xis_NoText : PySem.W.isClsIn K C_NoText = true)
    (xg_OutOfRange : PySem.W.nsIn K mainGlobals "OutOfRange" = some (some (.ref C_OutOfRange)))
    (xx_OutOfRange : K.lookup C_OutOfRange = some (excClassObj nm_OutOfRange q_OutOfRange C_OutOfRange N_OutOfRange bs_OutOfRange (.ref C_HouseError :: [.type "ValueError", .type "Exception", .type "BaseException", .type "object"]) true sn_OutOfRange sub_OutOfRange ab_OutOfRange col_OutOfRange dd_OutOfRange m0_OutOfRange m1_OutOfRange m2_OutOfRange m3_OutOfRange m5_OutOfRange "ValueError.__new__"))
    (xs_OutOfRange : PySem.W.findIn K (.ref C_OutOfRange) "__setattr__" = some (some (.builtin "object.__setattr__")))
    (xga_OutOfRange : PySem.W.findIn K (.ref C_OutOfRange) "__getattribute__" = some (some (.builtin "BaseException.__getattribute__")))
    (xgg_OutOfRange : PySem.W.findIn K (.ref C_OutOfRange) "__getattr__" = some none)
    (xat_OutOfRange : PySem.W.findIn K (.ref C_OutOfRange) "at" = some none)
    (xi_OutOfRange : PySem.W.findIn K (.ref C_OutOfRange) "__init__" = some (some (.ref fI)))
    (xb_OutOfRange : PySem.W.subIn K (.ref C_OutOfRange) (.type "BaseException") = some true)
    (xt_OutOfRange : PySem.W.typeIn K (.ref C_OutOfRange) = some (.type "type"))
    (xh_OutOfRange : PySem.W.hasDictIn K C_OutOfRange = true)
    (xk_OutOfRange : PySem.W.keepIn K (.ref C_OutOfRange) = true)
    (xis_OutOfRange : PySem.W.isClsIn K C_OutOfRange = true)
    (l_I : K.lookup fI = some ⟨ocI, odI, .func (PySem.W.fnOf "__init__" "HouseError.__init__" (defArgs s_init) (defBody s_init) (defScope s_init) .none kVI dcI pmI anI cdI ctI), slI⟩)
    (c_I : PySem.W.codeIn K cdI "HouseError.__init__" = true)
    (k_I : PySem.W.keepIn K (.ref fI) = true)
    (t_I : PySem.W.typeIn K (.ref fI) = some (.type "function"))
    (e_OutOfRange_OutOfRange : PySem.W.subIn K (.ref C_OutOfRange) (.ref C_OutOfRange) = some true)
    (e_TakenNumber_OutOfRange : PySem.W.subIn K (.ref C_TakenNumber) (.ref C_OutOfRange) = some false)
    (e_TakenNumber_TakenNumber : PySem.W.subIn K (.ref C_TakenNumber) (.ref C_TakenNumber) = some true)
    (e_BadText_OutOfRange : PySem.W.subIn K (.ref C_BadText) (.ref C_OutOfRange) = some false)
    (e_BadText_TakenNumber : PySem.W.subIn K (.ref C_BadText) (.ref C_TakenNumber) = some false)
    (e_BadText_BadText : PySem.W.subIn K (.ref C_BadText) (.ref C_BadText) = some true)
    (e_TooMany_OutOfRange : PySem.W.subIn K (.ref C_TooMany) (.ref C_OutOfRange) = some false)
    (e_TooMany_TakenNumber : PySem.W.subIn K (.ref C_TooMany) (.ref C_TakenNumber) = some false)
    (e_TooMany_BadText : PySem.W.subIn K (.ref C_TooMany) (.ref C_BadText) = some false)
    (e_TooMany_TooMany : PySem.W.subIn K (.ref C_TooMany) (.ref C_TooMany) = some true)
    (e_NoText_OutOfRange : PySem.W.subIn K (.ref C_NoText) (.ref C_OutOfRange) = some false)
    (e_NoText_TakenNumber : PySem.W.subIn K (.ref C_NoText) (.ref C_TakenNumber) = some false)
    (e_NoText_BadText : PySem.W.subIn K (.ref C_NoText) (.ref C_BadText) = some false)
    (e_NoText_TooMany : PySem.W.subIn K (.ref C_NoText) (.ref C_TooMany) = some false)
    (e_NoText_NoText : PySem.W.subIn K (.ref C_NoText) (.ref C_NoText) = some true)
    : ∃ fd : FuncData, (∀ (s : Shared) (v : Value), BindsTo s fd ⟨[v], []⟩ [("script", v)]) ∧ ∀ base : Heap, K.In base → base.Ns mainGlobals mg → FnOk P w K mg base CX0 5 fa fd ["script"] (spLaw K) := by
  have e := hfa.symm.trans (PySem.W.mg_of X G a_law)
  cases e
  have T : Txt K mg ⟨fI, C_HouseError, C_BadText, C_TooMany, C_TakenNumber, C_NoText, C_OutOfRange⟩ := ⟨PySem.W.mg_none_of X G z_abs, PySem.W.mg_none_of X G z_all, PySem.W.mg_none_of X G z_int, PySem.W.mg_none_of X G z_len, PySem.W.mg_none_of X G z_list, PySem.W.mg_none_of X G z_min, PySem.W.mg_none_of X G z_ord, PySem.W.mg_none_of X G z_range, PySem.W.mg_none_of X G z_sorted, ⟨_, PySem.W.mg_of X G n__GREATEST_NUMBER⟩, ⟨_, PySem.W.mg_of X G n__MOST_LETTERS⟩, ⟨_, PySem.W.mg_of X G n__MOST_TEXTS⟩, ⟨_, PySem.W.mg_of X G n__PERCENT_SIGN⟩, ⟨_, _, fun_mk (st := s_is_house) l_is_house c_is_house k_is_house, PySem.W.mg_of X G a_is_house, (fun_mk (st := s_is_house) l_is_house c_is_house k_is_house).binds (ps := ["house"]) fun _ _ _ _ _ _ us hl => match us, hl with | [_], _ => rfl⟩, ⟨_, _, fun_mk (st := s_text_of) l_text_of c_text_of k_text_of, PySem.W.mg_of X G a_text_of, (fun_mk (st := s_text_of) l_text_of c_text_of k_text_of).binds (ps := ["house", "number"]) fun _ _ _ _ _ _ us hl => match us, hl with | [_, _], _ => rfl⟩, ⟨_, _, fun_mk (st := s_with_text) l_with_text c_with_text k_with_text, PySem.W.mg_of X G a_with_text, (fun_mk (st := s_with_text) l_with_text c_with_text k_with_text).binds (ps := ["house", "number", "text"]) fun _ _ _ _ _ _ us hl => match us, hl with | [_, _, _], _ => rfl⟩, ⟨_, _, fun_mk (st := s_without_text) l_without_text c_without_text k_without_text, PySem.W.mg_of X G a_without_text, (fun_mk (st := s_without_text) l_without_text c_without_text k_without_text).binds (ps := ["house", "number"]) fun _ _ _ _ _ _ us hl => match us, hl with | [_, _], _ => rfl⟩, ⟨_, _, fun_mk (st := s__is_text) l__is_text c__is_text k__is_text, PySem.W.mg_of X G a__is_text, (fun_mk (st := s__is_text) l__is_text c__is_text k__is_text).binds (ps := ["text"]) fun _ _ _ _ _ _ us hl => match us, hl with | [_], _ => rfl⟩, ⟨_, _, fun_mk (st := s__is_letter) l__is_letter c__is_letter k__is_letter, PySem.W.mg_of X G a__is_letter, (fun_mk (st := s__is_letter) l__is_letter c__is_letter k__is_letter).binds (ps := ["character"]) fun _ _ _ _ _ _ us hl => match us, hl with | [_], _ => rfl⟩, ⟨_, _, fun_mk (st := s__has_number) l__has_number c__has_number k__has_number, PySem.W.mg_of X G a__has_number, (fun_mk (st := s__has_number) l__has_number c__has_number k__has_number).binds (ps := ["house", "number"]) fun _ _ _ _ _ _ us hl => match us, hl with | [_, _], _ => rfl⟩, ⟨_, _, fun_mk (st := s__law_draws) l__law_draws c__law_draws k__law_draws, PySem.W.mg_of X G a__law_draws, (fun_mk (st := s__law_draws) l__law_draws c__law_draws k__law_draws).binds (ps := ["script"]) fun _ _ _ _ _ _ us hl => match us, hl with | [_], _ => rfl⟩, ⟨_, _, fun_mk (st := s__law_at) l__law_at c__law_at k__law_at, PySem.W.mg_of X G a__law_at, (fun_mk (st := s__law_at) l__law_at c__law_at k__law_at).binds (ps := ["draws", "k", "many"]) fun _ _ _ _ _ _ us hl => match us, hl with | [_, _, _], _ => rfl⟩, ⟨_, _, fun_mk (st := s__law_mix) l__law_mix c__law_mix k__law_mix, PySem.W.mg_of X G a__law_mix, (fun_mk (st := s__law_mix) l__law_mix c__law_mix k__law_mix).binds (ps := ["draws", "k", "many"]) fun _ _ _ _ _ _ us hl => match us, hl with | [_, _, _], _ => rfl⟩, ⟨_, _, fun_mk (st := s__law_letter) l__law_letter c__law_letter k__law_letter, PySem.W.mg_of X G a__law_letter, (fun_mk (st := s__law_letter) l__law_letter c__law_letter k__law_letter).binds (ps := ["cell"]) fun _ _ _ _ _ _ us hl => match us, hl with | [_], _ => rfl⟩, ⟨_, _, fun_mk (st := s__law_text) l__law_text c__law_text k__law_text, PySem.W.mg_of X G a__law_text, (fun_mk (st := s__law_text) l__law_text c__law_text k__law_text).binds (ps := ["draws", "k", "most"]) fun _ _ _ _ _ _ us hl => match us, hl with | [_, _, _], _ => rfl⟩, ⟨_, _, fun_mk (st := s__law_house) l__law_house c__law_house k__law_house, PySem.W.mg_of X G a__law_house, (fun_mk (st := s__law_house) l__law_house c__law_house k__law_house).binds (ps := ["draws", "k", "many", "most"]) fun _ _ _ _ _ _ us hl => match us, hl with | [_, _, _, _], _ => rfl⟩, ⟨_, _, fun_mk (st := s__law_spoilt) l__law_spoilt c__law_spoilt k__law_spoilt, PySem.W.mg_of X G a__law_spoilt, (fun_mk (st := s__law_spoilt) l__law_spoilt c__law_spoilt k__law_spoilt).binds (ps := ["draws", "house"]) fun _ _ _ _ _ _ us hl => match us, hl with | [_, _], _ => rfl⟩, ⟨_, _, fun_mk (st := s__law_told) l__law_told c__law_told k__law_told, PySem.W.mg_of X G a__law_told, (fun_mk (st := s__law_told) l__law_told c__law_told k__law_told).binds (ps := ["house", "number", "text", "word"]) fun _ _ _ _ _ _ us hl => match us, hl with | [_, _, _, _], _ => rfl⟩, ⟨_, _, fun_mk (st := s__law_due) l__law_due c__law_due k__law_due, PySem.W.mg_of X G a__law_due, (fun_mk (st := s__law_due) l__law_due c__law_due k__law_due).binds (ps := ["house", "number", "text", "word"]) fun _ _ _ _ _ _ us hl => match us, hl with | [_, _, _, _], _ => rfl⟩, ⟨_, _, fun_mk (st := s_law) l_law c_law k_law, PySem.W.mg_of X G a_law, (fun_mk (st := s_law) l_law c_law k_law).binds (ps := ["script"]) fun _ _ _ _ _ _ us hl => match us, hl with | [_], _ => rfl⟩, ⟨_, fun_mk (st := s_init) l_I c_I k_I, (fun_mk (st := s_init) l_I c_I k_I).binds (ps := ["self", "at"]) (fun _ _ _ _ _ _ us hl => match us, hl with | [_, _], _ => rfl), t_I⟩, { g := PySem.W.mg_of X G xg_HouseError, o := ⟨⟨nm_HouseError, q_HouseError, N_HouseError, bs_HouseError, _, sn_HouseError, sub_HouseError, ab_HouseError, col_HouseError, dd_HouseError, m0_HouseError, m1_HouseError, m2_HouseError, m3_HouseError, m5_HouseError, xx_HouseError, by first | decide +kernel | rfl⟩, xs_HouseError, xb_HouseError, xt_HouseError, xk_HouseError⟩, i := xi_HouseError, no := xat_HouseError, f := ⟨xga_HouseError, xgg_HouseError, xb_HouseError, xh_HouseError⟩ }, { g := PySem.W.mg_of X G xg_BadText, o := ⟨⟨nm_BadText, q_BadText, N_BadText, bs_BadText, _, sn_BadText, sub_BadText, ab_BadText, col_BadText, dd_BadText, m0_BadText, m1_BadText, m2_BadText, m3_BadText, m5_BadText, xx_BadText, by first | decide +kernel | rfl⟩, xs_BadText, xb_BadText, xt_BadText, xk_BadText⟩, i := xi_BadText, no := xat_BadText, f := ⟨xga_BadText, xgg_BadText, xb_BadText, xh_BadText⟩ }, { g := PySem.W.mg_of X G xg_TooMany, o := ⟨⟨nm_TooMany, q_TooMany, N_TooMany, bs_TooMany, _, sn_TooMany, sub_TooMany, ab_TooMany, col_TooMany, dd_TooMany, m0_TooMany, m1_TooMany, m2_TooMany, m3_TooMany, m5_TooMany, xx_TooMany, by first | decide +kernel | rfl⟩, xs_TooMany, xb_TooMany, xt_TooMany, xk_TooMany⟩, i := xi_TooMany, no := xat_TooMany, f := ⟨xga_TooMany, xgg_TooMany, xb_TooMany, xh_TooMany⟩ }, { g := PySem.W.mg_of X G xg_TakenNumber, o := ⟨⟨nm_TakenNumber, q_TakenNumber, N_TakenNumber, bs_TakenNumber, _, sn_TakenNumber, sub_TakenNumber, ab_TakenNumber, col_TakenNumber, dd_TakenNumber, m0_TakenNumber, m1_TakenNumber, m2_TakenNumber, m3_TakenNumber, m5_TakenNumber, xx_TakenNumber, by first | decide +kernel | rfl⟩, xs_TakenNumber, xb_TakenNumber, xt_TakenNumber, xk_TakenNumber⟩, i := xi_TakenNumber, no := xat_TakenNumber, f := ⟨xga_TakenNumber, xgg_TakenNumber, xb_TakenNumber, xh_TakenNumber⟩ }, { g := PySem.W.mg_of X G xg_NoText, o := ⟨⟨nm_NoText, q_NoText, N_NoText, bs_NoText, _, sn_NoText, sub_NoText, ab_NoText, col_NoText, dd_NoText, m0_NoText, m1_NoText, m2_NoText, m3_NoText, m5_NoText, xx_NoText, by first | decide +kernel | rfl⟩, xs_NoText, xb_NoText, xt_NoText, xk_NoText⟩, i := xi_NoText, no := xat_NoText, f := ⟨xga_NoText, xgg_NoText, xb_NoText, xh_NoText⟩ }, { g := PySem.W.mg_of X G xg_OutOfRange, o := ⟨⟨nm_OutOfRange, q_OutOfRange, N_OutOfRange, bs_OutOfRange, _, sn_OutOfRange, sub_OutOfRange, ab_OutOfRange, col_OutOfRange, dd_OutOfRange, m0_OutOfRange, m1_OutOfRange, m2_OutOfRange, m3_OutOfRange, m5_OutOfRange, xx_OutOfRange, by first | decide +kernel | rfl⟩, xs_OutOfRange, xb_OutOfRange, xt_OutOfRange, xk_OutOfRange⟩, i := xi_OutOfRange, no := xat_OutOfRange, f := ⟨xga_OutOfRange, xgg_OutOfRange, xb_OutOfRange, xh_OutOfRange⟩ }, exm_of xb_OutOfRange xis_OutOfRange xt_OutOfRange e_OutOfRange_OutOfRange, exm_of xb_OutOfRange xis_OutOfRange xt_OutOfRange e_TakenNumber_OutOfRange, exm_of xb_TakenNumber xis_TakenNumber xt_TakenNumber e_TakenNumber_TakenNumber, exm_of xb_OutOfRange xis_OutOfRange xt_OutOfRange e_BadText_OutOfRange, exm_of xb_TakenNumber xis_TakenNumber xt_TakenNumber e_BadText_TakenNumber, exm_of xb_BadText xis_BadText xt_BadText e_BadText_BadText, exm_of xb_OutOfRange xis_OutOfRange xt_OutOfRange e_TooMany_OutOfRange, exm_of xb_TakenNumber xis_TakenNumber xt_TakenNumber e_TooMany_TakenNumber, exm_of xb_BadText xis_BadText xt_BadText e_TooMany_BadText, exm_of xb_TooMany xis_TooMany xt_TooMany e_TooMany_TooMany, exm_of xb_OutOfRange xis_OutOfRange xt_OutOfRange e_NoText_OutOfRange, exm_of xb_TakenNumber xis_TakenNumber xt_TakenNumber e_NoText_TakenNumber, exm_of xb_BadText xis_BadText xt_BadText e_NoText_BadText, exm_of xb_TooMany xis_TooMany xt_TooMany e_NoText_TooMany, exm_of xb_NoText xis_NoText xt_NoText e_NoText_NoText⟩
  exact ⟨PySem.W.fnOf "law" "law" (defArgs s_law) (defBody s_law) (defScope s_law) .none kV_law dc_law pm_law an_law cd_law ct_law, fun s v => .of_eq rfl, fun base _ _ => law_all T (fun_mk (st := s_law) l_law c_law k_law)⟩
end SH
open PySem PySem.W PyProof.Rows
set_option maxHeartbeats 0 in
theorem PySem.Challenge.cw_suffixhouse_k00_houses_holds : PySem.Challenge.rw_suffixhouse_k00_houses.Holds := by
  w_on; o_law; k_head; (case hw => w_witness2)
  k_fill
  refine L2.walk_of (l := PySem.Challenge.rw_suffixhouse_k00_houses) (n := 63) (k := 5) (x := "script") (CX := fun _ => L2.CX0) (sp := fun w => SH.spLaw _) rfl (by decide) rfl ⟨rfl, by decide, by decide⟩ (fun w h Y => PySem.W.kIn_of Y) ?F (fun _ _ a ns hl _ hS => ⟨a, ns, rfl, hS, hl, fun _ => rfl⟩) (fun _ _ _ _ _ h => h)
  case F =>
    intro w mg fa h KX G hmg
    refine' SH.all_mk KX G hmg ?z_abs ?z_all ?z_int ?z_len ?z_list ?z_min ?z_ord ?z_range ?z_sorted ?n__GREATEST_NUMBER ?n__MOST_LETTERS ?n__MOST_TEXTS ?n__PERCENT_SIGN ?a_is_house ?l_is_house ?c_is_house ?k_is_house ?a_text_of ?l_text_of ?c_text_of ?k_text_of ?a_with_text ?l_with_text ?c_with_text ?k_with_text ?a_without_text ?l_without_text ?c_without_text ?k_without_text ?a__is_text ?l__is_text ?c__is_text ?k__is_text ?a__is_letter ?l__is_letter ?c__is_letter ?k__is_letter ?a__has_number ?l__has_number ?c__has_number ?k__has_number ?a__law_draws ?l__law_draws ?c__law_draws ?k__law_draws ?a__law_at ?l__law_at ?c__law_at ?k__law_at ?a__law_mix ?l__law_mix ?c__law_mix ?k__law_mix ?a__law_letter ?l__law_letter ?c__law_letter ?k__law_letter ?a__law_text ?l__law_text ?c__law_text ?k__law_text ?a__law_house ?l__law_house ?c__law_house ?k__law_house ?a__law_spoilt ?l__law_spoilt ?c__law_spoilt ?k__law_spoilt ?a__law_told ?l__law_told ?c__law_told ?k__law_told ?a__law_due ?l__law_due ?c__law_due ?k__law_due ?a_law ?l_law ?c_law ?k_law ?xg_HouseError ?xx_HouseError ?xs_HouseError ?xga_HouseError ?xgg_HouseError ?xat_HouseError ?xi_HouseError ?xb_HouseError ?xt_HouseError ?xh_HouseError ?xk_HouseError ?xis_HouseError ?xg_BadText ?xx_BadText ?xs_BadText ?xga_BadText ?xgg_BadText ?xat_BadText ?xi_BadText ?xb_BadText ?xt_BadText ?xh_BadText ?xk_BadText ?xis_BadText ?xg_TooMany ?xx_TooMany ?xs_TooMany ?xga_TooMany ?xgg_TooMany ?xat_TooMany ?xi_TooMany ?xb_TooMany ?xt_TooMany ?xh_TooMany ?xk_TooMany ?xis_TooMany ?xg_TakenNumber ?xx_TakenNumber ?xs_TakenNumber ?xga_TakenNumber ?xgg_TakenNumber ?xat_TakenNumber ?xi_TakenNumber ?xb_TakenNumber ?xt_TakenNumber ?xh_TakenNumber ?xk_TakenNumber ?xis_TakenNumber ?xg_NoText ?xx_NoText ?xs_NoText ?xga_NoText ?xgg_NoText ?xat_NoText ?xi_NoText ?xb_NoText ?xt_NoText ?xh_NoText ?xk_NoText ?xis_NoText ?xg_OutOfRange ?xx_OutOfRange ?xs_OutOfRange ?xga_OutOfRange ?xgg_OutOfRange ?xat_OutOfRange ?xi_OutOfRange ?xb_OutOfRange ?xt_OutOfRange ?xh_OutOfRange ?xk_OutOfRange ?xis_OutOfRange ?l_I ?c_I ?k_I ?t_I ?e_OutOfRange_OutOfRange ?e_TakenNumber_OutOfRange ?e_TakenNumber_TakenNumber ?e_BadText_OutOfRange ?e_BadText_TakenNumber ?e_BadText_BadText ?e_TooMany_OutOfRange ?e_TooMany_TakenNumber ?e_TooMany_BadText ?e_TooMany_TooMany ?e_NoText_OutOfRange ?e_NoText_TakenNumber ?e_NoText_BadText ?e_NoText_TooMany ?e_NoText_NoText
    (case z_abs => first | k_is | rfl)
    (case z_all => first | k_is | rfl)
    (case z_int => first | k_is | rfl)
    (case z_len => first | k_is | rfl)
    (case z_list => first | k_is | rfl)
    (case z_min => first | k_is | rfl)
    (case z_ord => first | k_is | rfl)
    (case z_range => first | k_is | rfl)
    (case z_sorted => first | k_is | rfl)
    (case n__GREATEST_NUMBER => first | k_is | rfl)
    (case n__MOST_LETTERS => first | k_is | rfl)
    (case n__MOST_TEXTS => first | k_is | rfl)
    (case n__PERCENT_SIGN => first | k_is | rfl)
    (case a_is_house => first | k_is | rfl)
    (case l_is_house => first | k_is | rfl)
    (case c_is_house => first | k_is | rfl)
    (case k_is_house => first | k_is | rfl)
    (case a_text_of => first | k_is | rfl)
    (case l_text_of => first | k_is | rfl)
    (case c_text_of => first | k_is | rfl)
    (case k_text_of => first | k_is | rfl)
    (case a_with_text => first | k_is | rfl)
    (case l_with_text => first | k_is | rfl)
    (case c_with_text => first | k_is | rfl)
    (case k_with_text => first | k_is | rfl)
    (case a_without_text => first | k_is | rfl)
    (case l_without_text => first | k_is | rfl)
    (case c_without_text => first | k_is | rfl)
    (case k_without_text => first | k_is | rfl)
    (case a__is_text => first | k_is | rfl)
    (case l__is_text => first | k_is | rfl)
    (case c__is_text => first | k_is | rfl)
    (case k__is_text => first | k_is | rfl)
    (case a__is_letter => first | k_is | rfl)
    (case l__is_letter => first | k_is | rfl)
    (case c__is_letter => first | k_is | rfl)
    (case k__is_letter => first | k_is | rfl)
    (case a__has_number => first | k_is | rfl)
    (case l__has_number => first | k_is | rfl)
    (case c__has_number => first | k_is | rfl)
    (case k__has_number => first | k_is | rfl)
    (case a__law_draws => first | k_is | rfl)
    (case l__law_draws => first | k_is | rfl)
    (case c__law_draws => first | k_is | rfl)
    (case k__law_draws => first | k_is | rfl)
    (case a__law_at => first | k_is | rfl)
    (case l__law_at => first | k_is | rfl)
    (case c__law_at => first | k_is | rfl)
    (case k__law_at => first | k_is | rfl)
    (case a__law_mix => first | k_is | rfl)
    (case l__law_mix => first | k_is | rfl)
    (case c__law_mix => first | k_is | rfl)
    (case k__law_mix => first | k_is | rfl)
    (case a__law_letter => first | k_is | rfl)
    (case l__law_letter => first | k_is | rfl)
    (case c__law_letter => first | k_is | rfl)
    (case k__law_letter => first | k_is | rfl)
    (case a__law_text => first | k_is | rfl)
    (case l__law_text => first | k_is | rfl)
    (case c__law_text => first | k_is | rfl)
    (case k__law_text => first | k_is | rfl)
    (case a__law_house => first | k_is | rfl)
    (case l__law_house => first | k_is | rfl)
    (case c__law_house => first | k_is | rfl)
    (case k__law_house => first | k_is | rfl)
    (case a__law_spoilt => first | k_is | rfl)
    (case l__law_spoilt => first | k_is | rfl)
    (case c__law_spoilt => first | k_is | rfl)
    (case k__law_spoilt => first | k_is | rfl)
    (case a__law_told => first | k_is | rfl)
    (case l__law_told => first | k_is | rfl)
    (case c__law_told => first | k_is | rfl)
    (case k__law_told => first | k_is | rfl)
    (case a__law_due => first | k_is | rfl)
    (case l__law_due => first | k_is | rfl)
    (case c__law_due => first | k_is | rfl)
    (case k__law_due => first | k_is | rfl)
    (case a_law => first | k_is | rfl)
    (case l_law => first | k_is | rfl)
    (case c_law => first | k_is | rfl)
    (case k_law => first | k_is | rfl)
    (case xg_HouseError => first | k_is | rfl)
    (case xx_HouseError => first | k_is | rfl)
    (case xs_HouseError => first | k_is | rfl)
    (case xga_HouseError => first | k_is | rfl)
    (case xgg_HouseError => first | k_is | rfl)
    (case xat_HouseError => first | k_is | rfl)
    (case xi_HouseError => first | k_is | rfl)
    (case xb_HouseError => first | k_is | rfl)
    (case xt_HouseError => first | k_is | rfl)
    (case xh_HouseError => first | k_is | rfl)
    (case xk_HouseError => first | k_is | rfl)
    (case xis_HouseError => first | k_is | rfl)
    (case xg_BadText => first | k_is | rfl)
    (case xx_BadText => first | k_is | rfl)
    (case xs_BadText => first | k_is | rfl)
    (case xga_BadText => first | k_is | rfl)
    (case xgg_BadText => first | k_is | rfl)
    (case xat_BadText => first | k_is | rfl)
    (case xi_BadText => first | k_is | rfl)
    (case xb_BadText => first | k_is | rfl)
    (case xt_BadText => first | k_is | rfl)
    (case xh_BadText => first | k_is | rfl)
    (case xk_BadText => first | k_is | rfl)
    (case xis_BadText => first | k_is | rfl)
    (case xg_TooMany => first | k_is | rfl)
    (case xx_TooMany => first | k_is | rfl)
    (case xs_TooMany => first | k_is | rfl)
    (case xga_TooMany => first | k_is | rfl)
    (case xgg_TooMany => first | k_is | rfl)
    (case xat_TooMany => first | k_is | rfl)
    (case xi_TooMany => first | k_is | rfl)
    (case xb_TooMany => first | k_is | rfl)
    (case xt_TooMany => first | k_is | rfl)
    (case xh_TooMany => first | k_is | rfl)
    (case xk_TooMany => first | k_is | rfl)
    (case xis_TooMany => first | k_is | rfl)
    (case xg_TakenNumber => first | k_is | rfl)
    (case xx_TakenNumber => first | k_is | rfl)
    (case xs_TakenNumber => first | k_is | rfl)
    (case xga_TakenNumber => first | k_is | rfl)
    (case xgg_TakenNumber => first | k_is | rfl)
    (case xat_TakenNumber => first | k_is | rfl)
    (case xi_TakenNumber => first | k_is | rfl)
    (case xb_TakenNumber => first | k_is | rfl)
    (case xt_TakenNumber => first | k_is | rfl)
    (case xh_TakenNumber => first | k_is | rfl)
    (case xk_TakenNumber => first | k_is | rfl)
    (case xis_TakenNumber => first | k_is | rfl)
    (case xg_NoText => first | k_is | rfl)
    (case xx_NoText => first | k_is | rfl)
    (case xs_NoText => first | k_is | rfl)
    (case xga_NoText => first | k_is | rfl)
    (case xgg_NoText => first | k_is | rfl)
    (case xat_NoText => first | k_is | rfl)
    (case xi_NoText => first | k_is | rfl)
    (case xb_NoText => first | k_is | rfl)
    (case xt_NoText => first | k_is | rfl)
    (case xh_NoText => first | k_is | rfl)
    (case xk_NoText => first | k_is | rfl)
    (case xis_NoText => first | k_is | rfl)
    (case xg_OutOfRange => first | k_is | rfl)
    (case xx_OutOfRange => first | k_is | rfl)
    (case xs_OutOfRange => first | k_is | rfl)
    (case xga_OutOfRange => first | k_is | rfl)
    (case xgg_OutOfRange => first | k_is | rfl)
    (case xat_OutOfRange => first | k_is | rfl)
    (case xi_OutOfRange => first | k_is | rfl)
    (case xb_OutOfRange => first | k_is | rfl)
    (case xt_OutOfRange => first | k_is | rfl)
    (case xh_OutOfRange => first | k_is | rfl)
    (case xk_OutOfRange => first | k_is | rfl)
    (case xis_OutOfRange => first | k_is | rfl)
    (case l_I => first | k_is | rfl)
    (case c_I => first | k_is | rfl)
    (case k_I => first | k_is | rfl)
    (case t_I => first | k_is | rfl)
    (case e_OutOfRange_OutOfRange => first | k_is | rfl)
    (case e_TakenNumber_OutOfRange => first | k_is | rfl)
    (case e_TakenNumber_TakenNumber => first | k_is | rfl)
    (case e_BadText_OutOfRange => first | k_is | rfl)
    (case e_BadText_TakenNumber => first | k_is | rfl)
    (case e_BadText_BadText => first | k_is | rfl)
    (case e_TooMany_OutOfRange => first | k_is | rfl)
    (case e_TooMany_TakenNumber => first | k_is | rfl)
    (case e_TooMany_BadText => first | k_is | rfl)
    (case e_TooMany_TooMany => first | k_is | rfl)
    (case e_NoText_OutOfRange => first | k_is | rfl)
    (case e_NoText_TakenNumber => first | k_is | rfl)
    (case e_NoText_BadText => first | k_is | rfl)
    (case e_NoText_TooMany => first | k_is | rfl)
    (case e_NoText_NoText => first | k_is | rfl)
