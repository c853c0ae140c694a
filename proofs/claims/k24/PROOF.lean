import PyProof.Rows.All
import Wide.All
import OpenK.AllK
import Wide.FinOn
import HandS.Base
import HandS.Call
import HandS.List
import HandS.Comp
import HandS.AnyAll
import HandS.ForMost
import PyProof.TupleOfGen
import PyProof.GenCompT
import PyProof.WalksPairs
import PyProof.WalksEnum
import PyProof.Draws
import KE.GoesEnum
import PyProof.ReprRoads
import HandS.TupSets
import KE.SortData
import HandS.Wide
import HandS.EndTab
import PyProof.ReprLen
import KE.KNest
import KE.KNestM
import HandS.Strs
import HandS.SetFor
import HandS.Rev
import HandS.More
import HandS.ExcValue
import HandS.Walk
import HandS.Zip
import HandS.TupAny
import HandS.TupLe
import HandS.Deep
import HandS.Conv
import PySem.Challenge.RW_deedseen_k24_whole_things_and_goals
set_option Elab.async false
set_option linter.all false
set_option maxRecDepth 100000
set_option maxHeartbeats 2000000
namespace G9
open PySem PySem.Spec PyProof.Rows L2 GxR

/-! ### a generator's frame -/
structure Gf (X : Cx) (scope : Scope) (cenv : Env) : Prop where
  sc : cenv.scope = scope
  kind : scope.kind = .function
  glob : cenv.globals = X.env.globals
  blt : cenv.builtins = builtinsNs
  cells : ∀ y c, scope.names.lookup y = some .free → X.env.cells.lookup y = some c → cenv.cells.lookup y = some c

/-- what stood at the making still stands -/
def Kp (P : Addr) (g h : Heap) : Prop := ∀ b o, b ≠ P → g.get? b = some o → h.get? b = some o
theorem Kp.more {P : Addr} {g h h' : Heap} (a : Kp P g h) (k : ∀ b o, h.get? b = some o → h'.get? b = some o) : Kp P g h' := fun b o n e => k b o (a b o n e)

theorem Keeps.trans {s s1 s2 : Shared} (a : Keeps s s1) (b : Keeps s1 s2) : Keeps s s2 := by
  obtain ⟨h1, t1, rfl, k1⟩ := a
  obtain ⟨h2, t2, rfl, k2⟩ := b
  exact ⟨h2, t2, rfl, fun b o e => k2 b o (k1 b o e)⟩
theorem Keeps.ns {s s1 : Shared} (a : Keeps s s1) {L : Addr} {m : Str → Option Value} (h : s.heap.Ns L m) : s1.heap.Ns L m := by
  obtain ⟨h1, t1, rfl, k1⟩ := a
  exact h.keeps k1
theorem Keeps.kp {s s1 : Shared} (a : Keeps s s1) {P : Addr} {g : Heap} (h : Kp P g s.heap) : Kp P g s1.heap := by
  obtain ⟨h1, t1, rfl, k1⟩ := a
  exact h.more k1

def QE (X : Cx) (P : Addr) (g : Heap) (scope : Scope) (xs : List (Str × Value)) (e : Expr) (R : Value → Prop) : Prop :=
  ∀ (cenv : Env) (A' : Around) (E' : Value → Shared → Prop) (s : Shared) (m : Str → Option Value),
    Gf X scope cenv → s.heap.Ns cenv.locals m → (∀ p ∈ xs, m p.1 = some p.2) → Kp P g s.heap →
    wpAny (model X.prog X.w) A' (eval e cenv) (fun y s3 => R y ∧ Keeps s s3) E' s
def QB (X : Cx) (P : Addr) (g : Heap) (scope : Scope) (xs : List (Str × Value)) (e : Expr) (k : Bool) : Prop :=
  ∀ (cenv : Env) (A' : Around) (E' : Value → Shared → Prop) (s : Shared) (m : Str → Option Value),
    Gf X scope cenv → s.heap.Ns cenv.locals m → (∀ p ∈ xs, m p.1 = some p.2) → Kp P g s.heap →
    wpAny (model X.prog X.w) A' (isTrue e cenv (eval e cenv)) (fun b s3 => b = k ∧ Keeps s s3) E' s
def QW (X : Cx) (P : Addr) (g : Heap) (scope : Scope) (xs : List (Str × Value)) (e : Expr) (k : Bool) : Prop :=
  ∀ (whole : Sem Value) (cenv : Env) (A' : Around) (E' : Value → Shared → Prop) (s : Shared) (m : Str → Option Value),
    Gf X scope cenv → s.heap.Ns cenv.locals m → (∀ p ∈ xs, m p.1 = some p.2) → Kp P g s.heap →
    wpAny (model X.prog X.w) A' (isTrue e cenv whole) (fun b s3 => b = k ∧ Keeps s s3) E' s
def QTs (X : Cx) (P : Addr) (g : Heap) (scope : Scope) (xs : List (Str × Value)) (es : List Expr) (k : Bool) : Prop :=
  ∀ (cenv : Env) (A' : Around) (E' : Value → Shared → Prop) (s : Shared) (m : Str → Option Value),
    Gf X scope cenv → s.heap.Ns cenv.locals m → (∀ p ∈ xs, m p.1 = some p.2) → Kp P g s.heap →
    wpAny (model X.prog X.w) A' (forIn es true fun c r => if r = true then do let ok ← isTrue c cenv (eval c cenv); pure (ForInStep.yield ok) else pure (ForInStep.yield r)) (fun b s3 => b = k ∧ Keeps s s3) E' s

/-- readings of a generator's expressions: the walked values, the def's slots, the heap; what comes out -/
abbrev GV := List V → L2.St → Hp → V → Prop
abbrev GB := List V → L2.St → Hp → Bool → Prop
structure GE (X : Cx) (P : Addr) (scope : Scope) (ns : List Str) (e : Expr) (t : GV) : Prop where
  run : ∀ pins σ H s, Inv X pins σ H s → TabG H P → ∀ vs us v, Vals vs us → vs.length = ns.length → t vs σ H v → QE X P s.heap scope (ns.zip us) e (RelV v)
structure GT (X : Cx) (P : Addr) (scope : Scope) (ns : List Str) (e : Expr) (t : GB) : Prop where
  run : ∀ pins σ H s, Inv X pins σ H s → TabG H P → ∀ vs us k, Vals vs us → vs.length = ns.length → t vs σ H k → QB X P s.heap scope (ns.zip us) e k
structure GW (X : Cx) (P : Addr) (scope : Scope) (ns : List Str) (e : Expr) (t : GB) : Prop where
  run : ∀ pins σ H s, Inv X pins σ H s → TabG H P → ∀ vs us k, Vals vs us → vs.length = ns.length → t vs σ H k → QW X P s.heap scope (ns.zip us) e k
structure GTs (X : Cx) (P : Addr) (scope : Scope) (ns : List Str) (es : List Expr) (t : GB) : Prop where
  run : ∀ pins σ H s, Inv X pins σ H s → TabG H P → ∀ vs us k, Vals vs us → vs.length = ns.length → t vs σ H k → QTs X P s.heap scope (ns.zip us) es k
section
variable {X : Cx} {P : Addr} {scope : Scope} {ns : List Str} {a b : Expr} {pos : Pos}
theorem GW.gt {e : Expr} {t : GB} (h : GW X P scope ns e t) : GT X P scope ns e t := ⟨fun pins σ H s I T vs us k r l q cenv A' E' s' m f n hm kp => h.run pins σ H s I T vs us k r l q _ cenv A' E' s' m f n hm kp⟩

theorem zip_get {α β : Type} : ∀ {xs : List α} {ys : List β} {j : Nat} {x : α} {y : β}, xs[j]? = some x → ys[j]? = some y → (x, y) ∈ xs.zip ys
  | _ :: _, _ :: _, 0, _, _, h1, h2 => by
    simp only [List.getElem?_cons_zero, Option.some.injEq] at h1 h2
    subst h1 h2
    exact List.mem_cons_self
  | _ :: xs, _ :: ys, j + 1, x, y, h1, h2 => List.mem_cons_of_mem _ (zip_get (j := j) (by simpa using h1) (by simpa using h2))
/-- a walked name -/
theorem ge_loc (j : Nat) {y : Str} (hn : ns[j]? = some y) (hl : scope.names.lookup y = some .local) (hd : (y == ("__debug__" : Str)) = false := by decide) : GE X P scope ns (.Name y pos) (fun vs _ _ v => vs[j]? = some v) := by
  refine ⟨fun pins σ H s I T vs us v r l q cenv A' E' s' m f n hm kp => ?_⟩
  obtain ⟨u, hu, rv⟩ := Vals.get r q
  refine wpAny_Name (wpAny_loadName_local (by rw [f.sc]; exact f.kind) (show cenv.scope.names.lookup y = some .local by rw [f.sc]; exact hl) n (hm _ (zip_get hn hu)) ?_) hd
  exact ⟨rv, keeps_refl _⟩
/-- a name of the def -/
theorem ge_free (i : Nat) {y : Str} (hN : X.N[i]? = some y) (hl : scope.names.lookup y = some .free) (hv : X.env.scope.names.lookup y = some .cell) (hd : (y == ("__debug__" : Str)) = false := by decide) (hcd : (y == ("__classdict__" : Str)) = false := by decide) : GE X P scope ns (.Name y pos) (fun _ σ _ v => σ[i]? = some (some v)) := by
  refine ⟨fun pins σ H s I T vs us v r l q cenv A' E' s' m f n hm kp => ?_⟩
  obtain ⟨m0, hn0, hl0⟩ := I.loc
  obtain ⟨u, ru, lk⟩ := hl0 i y v hN q (.inr (.inl hv))
  have hk : X.env.kindOf y = some .cell := hv
  rcases lk with ⟨hk1, _⟩ | ⟨_, c, hc, hcell⟩
  · rw [hk] at hk1
    cases hk1
  · have ncP : c ≠ P := fun z => by
      obtain ⟨ps, hP, _⟩ := T
      have h1 := I.freeC y c hc
      rw [z, hP] at h1
      cases h1
    have hcell' : s'.heap.IsCell c (some u) := by
      obtain ⟨o, ho, r⟩ := hcell
      exact ⟨o, kp c o ncP ho, r⟩
    exact wpAny_Name (wpAny_loadName_free (by rw [f.sc]; exact f.kind) (show cenv.scope.names.lookup y = some .free by rw [f.sc]; exact hl) (f.cells y c hl hc) hcell' ⟨ru, keeps_refl _⟩ hcd) hd
theorem ge_int {i : Int} {j : Nat} : GE X P scope ns (.Constant (.int i) j pos) (fun _ _ _ v => v = .int i) := by
  refine ⟨fun pins σ H s I T vs us v r l q cenv A' E' s' m f n hm kp => ?_⟩
  subst q
  exact wpAny_Constant_int ⟨⟨_, rfl⟩, keeps_tok _ _⟩

theorem tup_ne {pins σ H} {s : Shared} {p : Addr} {its : Array Value} (I : Inv X pins σ H s) (T : TabG H P) (h : ∃ o, s.heap.get? p = some o ∧ o.cls ≠ .none) : p ≠ P := fun z => by
  obtain ⟨o, ho, hc⟩ := h
  obtain ⟨ps, hP, _⟩ := T
  have e : s.heap.get? P = some { cls := .none, data := .fields ps } := I.hok P _ hP
  rw [z, e] at ho
  cases ho
  exact hc rfl

/-- x in xs -/
def gIn (neg : Bool) (K : PySem.W.Frag) (ta tb : GV) : GB := fun vs σ H k => ∃ x p ys, ta vs σ H x ∧ tb vs σ H (.ref p) ∧ (SqL K H p ys ∨ SqT K H p ys) ∧ flatV x = true ∧ ys.all flatV = true ∧ k = (if neg then !inV x ys else inV x ys)
theorem in_core {ta tb : GV} (ha : GE X P scope ns a ta) (hb : GE X P scope ns b tb) (neg : Bool) {pins σ H s} (I : Inv X pins σ H s) (T : TabG H P) {vs us k} (r : Vals vs us) (l : vs.length = ns.length) (q : gIn neg X.K ta tb vs σ H k)
    {cenv : Env} {A' : Around} {E' : Value → Shared → Prop} {s' : Shared} {m : Str → Option Value} (f : Gf X scope cenv) (n : s'.heap.Ns cenv.locals m) (hm : ∀ p ∈ ns.zip us, m p.1 = some p.2) (kp : Kp P s.heap s'.heap) {Q : Value → Shared → Prop}
    (hQ : ∀ s3, Keeps s' s3 → Q (.bool k) s3) :
    wpAny (model X.prog X.w) A' (eval a cenv) (fun v s₁ => wpAny (model X.prog X.w) A' (eval b cenv) (fun u s₂ => wpAny (model X.prog X.w) A' (compareOp (if neg then .NotIn else .In) v u) Q E' s₂) E' s₁) E' s' := by
  obtain ⟨x, p, ys, qa, qb, hq, fx, fs, rfl⟩ := q
  refine wpAny_mono (ha.run pins σ H s I T vs us x r l qa cenv A' E' s' m f n hm kp) (fun v s1 ⟨rx, k1⟩ => ?_) fun _ _ e => e
  refine wpAny_mono (hb.run pins σ H s I T vs us _ r l qb cenv A' E' s1 m f (Keeps.ns k1 n) hm (Keeps.kp k1 kp)) (fun u s2 ⟨ry, k2⟩ => ?_) fun _ _ e => e
  cases ry
  have kk := Keeps.kp k2 (Keeps.kp k1 kp)
  rcases hq with hq | hq
  · obtain ⟨its, r', pl, hz⟩ := I.list hq
    have hl : s2.heap.IsList p its.toArray := by
      obtain ⟨o, ho, hc, rest⟩ := pl.isList
      exact ⟨o, kk p o (tup_ne (its := #[]) I T ⟨o, ho, by rw [hc]; simp⟩) ho, hc, rest⟩
    cases neg with
    | false =>
      refine SeqAt.in_listAt (eqU x) hl (fun w hw => mem_eqAt rx fx r' fs w (by simpa using hw)) ?_
      rw [show its.toArray.any (eqU x) = its.any (eqU x) by simp, any_eqU r' fs]
      exact hQ _ (Keeps.trans k1 k2)
    | true =>
      refine SeqAt.notIn_listAt (eqU x) hl (fun w hw => mem_eqAt rx fx r' fs w (by simpa using hw)) ?_
      rw [show its.toArray.any (eqU x) = its.any (eqU x) by simp, any_eqU r' fs]
      exact hQ _ (Keeps.trans k1 k2)
  · obtain ⟨its, r', pl, hz⟩ := I.tuple hq
    have hl : IsTup s2.heap p its.toArray := by
      obtain ⟨o, ho, hc, rest⟩ := pl
      exact ⟨o, kk p o (tup_ne (its := #[]) I T ⟨o, ho, by rw [hc]; simp⟩) ho, hc, rest⟩
    cases neg with
    | false =>
      refine SeqAt.in_tupleAt (eqU x) hl (fun w hw => mem_eqAt rx fx r' fs w (by simpa using hw)) ?_
      rw [show its.toArray.any (eqU x) = its.any (eqU x) by simp, any_eqU r' fs]
      exact hQ _ (Keeps.trans k1 k2)
    | true =>
      refine SeqAt.notIn_tupleAt (eqU x) hl (fun w hw => mem_eqAt rx fx r' fs w (by simpa using hw)) ?_
      rw [show its.toArray.any (eqU x) = its.any (eqU x) by simp, any_eqU r' fs]
      exact hQ _ (Keeps.trans k1 k2)
theorem gt_in {ta tb : GV} (ha : GE X P scope ns a ta) (hb : GE X P scope ns b tb) (h1 : behindInMarks .In b = false := by rfl) : GT X P scope ns (.Compare a [.In] [b] pos) (gIn false X.K ta tb) :=
  ⟨fun pins σ H s I T vs us k r l q cenv A' E' s' m f n hm kp => wpAny_isTrue_Compare1 (in_core ha hb false I T r l q f n hm kp fun s3 k3 => wpAny_truthy_bool ⟨rfl, k3⟩) h1⟩
theorem gt_notIn {ta tb : GV} (ha : GE X P scope ns a ta) (hb : GE X P scope ns b tb) (h1 : behindInMarks .NotIn b = false := by rfl) : GT X P scope ns (.Compare a [.NotIn] [b] pos) (gIn true X.K ta tb) :=
  ⟨fun pins σ H s I T vs us k r l q cenv A' E' s' m f n hm kp => wpAny_isTrue_Compare1 (in_core ha hb true I T r l q f n hm kp fun s3 k3 => wpAny_truthy_bool ⟨rfl, k3⟩) h1⟩
/-- .. as a value -/
def gBl (t : GB) : GV := fun vs σ H v => ∃ k, t vs σ H k ∧ v = .bl k
theorem ge_in {ta tb : GV} (ha : GE X P scope ns a ta) (hb : GE X P scope ns b tb) (h1 : behindInMarks .In b = false := by rfl) : GE X P scope ns (.Compare a [.In] [b] pos) (gBl (gIn false X.K ta tb)) :=
  ⟨fun pins σ H s I T vs us v r l q cenv A' E' s' m f n hm kp => by
    obtain ⟨k, q, rfl⟩ := q
    exact wpAny_Compare1 (in_core ha hb false I T r l q f n hm kp fun s3 k3 => ⟨rfl, k3⟩) h1⟩
theorem ge_notIn {ta tb : GV} (ha : GE X P scope ns a ta) (hb : GE X P scope ns b tb) (h1 : behindInMarks .NotIn b = false := by rfl) : GE X P scope ns (.Compare a [.NotIn] [b] pos) (gBl (gIn true X.K ta tb)) :=
  ⟨fun pins σ H s I T vs us v r l q cenv A' E' s' m f n hm kp => by
    obtain ⟨k, q, rfl⟩ := q
    exact wpAny_Compare1 (in_core ha hb true I T r l q f n hm kp fun s3 k3 => ⟨rfl, k3⟩) h1⟩
/-- two ints, == -/
def gEqI (ta tb : GV) : GB := fun vs σ H k => ∃ i j : Int, ta vs σ H (.int i) ∧ tb vs σ H (.int j) ∧ k = decide (i = j)
theorem gt_eq {ta tb : GV} (ha : GE X P scope ns a ta) (hb : GE X P scope ns b tb) (h1 : behindInMarks .Eq b = false := by rfl) : GT X P scope ns (.Compare a [.Eq] [b] pos) (gEqI ta tb) := by
  refine ⟨fun pins σ H s I T vs us k r l q cenv A' E' s' m f n hm kp => ?_⟩
  obtain ⟨i, j, qa, qb, rfl⟩ := q
  refine wpAny_isTrue_Compare1 (wpAny_mono (ha.run pins σ H s I T vs us _ r l qa cenv A' E' s' m f n hm kp) (fun v s1 ⟨rx, k1⟩ => ?_) fun _ _ e => e) h1
  refine wpAny_mono (hb.run pins σ H s I T vs us _ r l qb cenv A' E' s1 m f (Keeps.ns k1 n) hm (Keeps.kp k1 kp)) (fun u s2 ⟨ry, k2⟩ => ?_) fun _ _ e => e
  obtain ⟨t, rfl⟩ := rx
  obtain ⟨t', rfl⟩ := ry
  refine eq_int (wpAny_truthy_bool ⟨?_, Keeps.trans k1 k2⟩)
  by_cases e : i = j
  · simp [e]
  · simp [e]
/-- a and b -/
def gAnd (t u : GB) : GB := fun vs σ H k => ∃ c, t vs σ H c ∧ if c = true then u vs σ H k else k = false
theorem gw_and1 {t : GB} (ha : GT X P scope ns a t) : GW X P scope ns (.BoolOp .And [a] pos) t := by
  refine ⟨fun pins σ H s I T vs us k r l q wh cenv A' E' s' m f n hm kp => ?_⟩
  refine isTrue_and (wpAny_mono (ha.run pins σ H s I T vs us k r l q cenv A' E' s' m f n hm kp) (fun c s1 e => ?_) fun _ _ e => e)
  cases c with
  | true => exact isTrue_and_nil e
  | false => exact e
theorem gw_and {rest : List Expr} {t u : GB} (ha : GT X P scope ns a t) (hb : GW X P scope ns (.BoolOp .And (b :: rest) pos) u) : GW X P scope ns (.BoolOp .And (a :: b :: rest) pos) (gAnd t u) := by
  refine ⟨fun pins σ H s I T vs us k r l q wh cenv A' E' s' m f n hm kp => ?_⟩
  obtain ⟨c, q1, q2⟩ := q
  refine isTrue_and (wpAny_mono (ha.run pins σ H s I T vs us c r l q1 cenv A' E' s' m f n hm kp) (fun c' s1 ⟨e, k1⟩ => ?_) fun _ _ e => e)
  subst e
  cases c' with
  | true => exact wpAny_mono (hb.run pins σ H s I T vs us k r l (by simpa using q2) wh cenv A' E' s1 m f (Keeps.ns k1 n) hm (Keeps.kp k1 kp)) (fun c s2 ⟨e2, k2⟩ => ⟨e2, Keeps.trans k1 k2⟩) fun _ _ e => e
  | false => exact ⟨by simpa using q2.symm, k1⟩
/-- .. as a value (of bools) -/
theorem ge_and1 {t : GB} (ha : GE X P scope ns a (gBl t)) : GE X P scope ns (.BoolOp .And [a] pos) (gBl t) :=
  ⟨fun pins σ H s I T vs us v r l q cenv A' E' s' m f n hm kp => BoolOp_one (ha.run pins σ H s I T vs us v r l q cenv A' E' s' m f n hm kp)⟩
theorem ge_and {rest : List Expr} {t u : GB} (ha : GE X P scope ns a (gBl t)) (hb : GE X P scope ns (.BoolOp .And (b :: rest) pos) (gBl u)) : GE X P scope ns (.BoolOp .And (a :: b :: rest) pos) (gBl (gAnd t u)) := by
  refine ⟨fun pins σ H s I T vs us v r l q cenv A' E' s' m f n hm kp => ?_⟩
  obtain ⟨k, ⟨c, q1, q2⟩, rfl⟩ := q
  refine BoolOp_and (wpAny_mono (ha.run pins σ H s I T vs us _ r l ⟨c, q1, rfl⟩ cenv A' E' s' m f n hm kp) (fun v' s1 ⟨e, k1⟩ => ?_) fun _ _ e => e)
  cases e
  refine wpAny_truthy_bool ?_
  cases c with
  | true => exact wpAny_mono (hb.run pins σ H s I T vs us _ r l ⟨k, by simpa using q2, rfl⟩ cenv A' E' s1 m f (Keeps.ns k1 n) hm (Keeps.kp k1 kp)) (fun c s2 ⟨e2, k2⟩ => ⟨e2, Keeps.trans k1 k2⟩) fun _ _ e => e
  | false => exact ⟨by rw [show k = false by simpa using q2]; rfl, k1⟩
theorem gts_nil : GTs X P scope ns [] (fun _ _ _ k => k = true) := ⟨fun pins σ H s I T vs us k r l q cenv A' E' s' m f n hm kp => by
  subst q
  simp only [List.forIn_nil]
  exact wpAny_pure ⟨rfl, keeps_refl _⟩⟩
theorem gts_one {t : GB} (ha : GT X P scope ns a t) : GTs X P scope ns [a] t := ⟨fun pins σ H s I T vs us k r l q cenv A' E' s' m f n hm kp => by
  simp only [List.forIn_cons, List.forIn_nil, if_true]
  simp only [bind_assoc, pure_bind]
  refine wpAny_bind (wpAny_mono (ha.run pins σ H s I T vs us k r l q cenv A' E' s' m f n hm kp) (fun b s1 h => ?_) fun _ _ e => e)
  exact wpAny_pure h⟩
end
end G9
set_option Elab.async false
set_option linter.all false
set_option maxRecDepth 100000
set_option maxHeartbeats 2000000
namespace G9
open PySem PySem.Spec PyProof.Rows L2 GxR

def Grew (s1 s2 : Shared) : Prop := ∃ h' tk, s2 = { s1 with heap := h', toks := tk } ∧ (∀ b o, s1.heap.get? b = some o → h'.get? b = some o) ∧ s1.heap.objs.size ≤ h'.objs.size
def WalkN (X : Cx) (n : Nat) (Pv : Nat → Value → Prop) (it : Value) (s1 s2 : Shared) : Prop :=
  ∃ Ia fp wr St, it = .ref Ia ∧ (∀ A' : Around, A'.handled = none → Walks X.prog X.w A' Ia fp wr n Pv St) ∧ St 0 s2.heap ∧ (∀ b ∈ fp, ∃ o, s2.heap.get? b = some o ∧ o.cls ≠ .none) ∧ (∀ b ∈ wr, s1.heap.objs.size ≤ b)
def WalkP (X : Cx) (n : Nat) (Pt : Nat → Array Value → Prop) (it : Value) (s1 s2 : Shared) : Prop :=
  ∃ Ia fp wr St Mid, it = .ref Ia ∧ (∀ A' : Around, A'.handled = none → WalksU X.prog X.w A' Ia fp wr n Pt St Mid) ∧ St 0 s2.heap ∧ (∀ b ∈ fp, ∃ o, s2.heap.get? b = some o ∧ o.cls ≠ .none) ∧ (∀ b ∈ wr, s1.heap.objs.size ≤ b)
/-- what a generator walks: values, or pairs -/
abbrev TS1 := L2.St → Hp → (List V → Hp → Prop) → Prop
abbrev TS2 := L2.St → Hp → (List (V × V) → Hp → Prop) → Prop
structure GS1 (X : Cx) (iter : Expr) (t : TS1) : Prop where
  run : ∀ pins s σ H R, Inv X pins σ H s → t σ H R → wpAny (model X.prog X.w) X.A (eval iter X.env) (fun xv s1 => wpAny (model X.prog X.w) X.A (pyIter xv) (fun it s2 =>
    ∃ s0 H1 vs, Inv X pins σ H1 s0 ∧ R vs H1 ∧ Grew s0 s2 ∧ WalkN X vs.length (fun i y => ∃ x, vs[i]? = some x ∧ RelV x y) it s0 s2) X.xe s1) X.xe s
structure GS2 (X : Cx) (iter : Expr) (t : TS2) : Prop where
  run : ∀ pins s σ H R, Inv X pins σ H s → t σ H R → wpAny (model X.prog X.w) X.A (eval iter X.env) (fun xv s1 => wpAny (model X.prog X.w) X.A (pyIter xv) (fun it s2 =>
    ∃ s0 H1 ps, Inv X pins σ H1 s0 ∧ R ps H1 ∧ Grew s0 s2 ∧ WalkP X ps.length (fun i vals => ∃ va vb x y, vals = #[va, vb] ∧ ps[i]? = some (x, y) ∧ RelV x va ∧ RelV y vb) it s0 s2) X.xe s1) X.xe s

theorem lookup_mem {α : Type} : ∀ {l : List (Str × α)} {n : Str} {c : α}, l.lookup n = some c → (n, c) ∈ l
  | (k, v) :: r, n, c, h => by
    rw [List.lookup_cons] at h
    cases hb : n == k with
    | true =>
      rw [hb] at h
      cases h
      rw [beq_iff_eq.mp hb]
      exact List.mem_cons_self
    | false =>
      rw [hb] at h
      exact List.mem_cons_of_mem _ (lookup_mem h)
theorem clo_lookup {cells : List (Str × Addr)} {names : List (Str × NameKind)} {y : Str} {c : Addr} (h : names.lookup y = some .free) (hc : cells.lookup y = some c) : (cloFrom cells names []).lookup y = some c := by
  have h1 := cloFrom_has (cells := cells) (acc := []) (lookup_mem h)
  obtain ⟨c', e⟩ := mem_lookup h1
  rw [e]
  rcases cloFrom_mem (lookup_mem e) with z | ⟨_, z⟩
  · cases z
  · rw [z, hc]
    rfl

/-- the generator g, ready to be walked in s5: it gives L -/
def Ready (X : Cx) (pins : List (Addr × Obj)) (σ : L2.St) (H1 : Hp) (P : Addr) (L : List V) (g : Addr) (s5 : Shared) : Prop :=
  ∃ (fp wr : List Addr) (G : Array GenState → Array GenState → Prop) (Fi : Nat → Value → Prop) (St : Nat → Shared → Prop),
    WalksS X.prog X.w X.A.in4 g fp wr G L.length Fi St ∧ St 0 s5 ∧ (∀ j y, Fi j y → ∃ x, L[j]? = some x ∧ RelV x y) ∧ (∀ i s', St i s' → s'.TypeIs (.ref g) "generator") ∧ (∀ b ∈ fp, b < s5.heap.objs.size) ∧ g ∈ fp ∧
    ∀ s', Moved wr G s5 s' → ∃ H2, Tabbed P H1 H2 ∧ Inv X pins σ H2 s'

theorem pass_len {α : Type} (as : List α) (pz : α → Bool) : (passing (fun i => (as[i]?.map pz).getD false) as.length 0).length = (as.filter pz).length := by
  have hidx := idx_map as pz
  have hpass : passing (fun i => (as[i]?.map pz).getD false) as.length 0 = (List.range as.length).filter fun i => (as[i]?.map pz).getD false := by simp [passing]
  rw [hpass]
  simpa using congrArg List.length hidx
theorem pass_at {α : Type} (as : List α) (pz : α → Bool) {j i : Nat} {b : α} (h : (passing (fun i => (as[i]?.map pz).getD false) as.length 0)[j]? = some i) (hb : as[i]? = some b) : (as.filter pz)[j]? = some b := by
  have hidx := idx_map as pz
  have hpass : passing (fun i => (as[i]?.map pz).getD false) as.length 0 = (List.range as.length).filter fun i => (as[i]?.map pz).getD false := by simp [passing]
  rw [hpass] at h
  have := congrArg (fun l => l[j]?) hidx
  simp only [List.getElem?_map, h, Option.map_some, hb] at this
  cases hq : (as.filter pz)[j]? with
  | none => rw [hq] at this; simp at this
  | some b' => rw [hq] at this; simp at this; rw [this]

/-- the generator's scope, with the names xs of its target -/
structure GenN (sc : Scope) (scope : Scope) (xs : List Str) : Prop where
  kind : scope.kind = .function
  co : scope.isCoroutine = false
  cell : ∀ y ∈ scope.names, y.2 ≠ .cell
  dot : scope.names.lookup (".0" : Str) = some NameKind.local
  loc : ∀ x ∈ xs, scope.names.lookup x = some .local
  free : ∀ y ∈ scope.names, y.2 = .free → sc.names.lookup y.1 = some .cell
section
variable {X : Cx} {pins : List (Addr × Obj)} {σ : L2.St} {H : Hp} {s : Shared}
theorem GenN.fr {xs scope} (S : GenN X.env.scope scope xs) (I : Inv X pins σ H s) : ∀ y ∈ scope.names, y.2 = .free → ∃ c, X.env.cells.lookup y.1 = some c := fun y hy hf => I.ok.has _ (.inl (S.free y hy hf))

/-- behind the source: the code object, the builtins, the generator -/
theorem gen_behind {c P : Addr} {gpos : Pos} {scope : Scope} {xs : List Str} {H1 : Hp} {s0 s2 : Shared} {wr : List Addr} {Wk : Value → Shared → Prop} {k : Nat}
    (hr : Room k X.A) (TB : TabB X.base X.mg c P) (hcode : X.env.code = .ref c) (S : GenN X.env.scope scope xs) (I1 : Inv X pins σ H1 s0) (hg : Grew s0 s2) (T : TabG H1 P)
    (hwr : ∀ b ∈ wr, s0.heap.objs.size ≤ b)
    (h : ∀ (code : Value) (h3 : Heap) (tk : Nat), Heap.ExtBut P s2.heap h3 → s2.heap.objs.size ≤ h3.objs.size → h3.NoLimit → cStatics ∉ wr → Kp P s0.heap h3 →
      (∀ h5 gs (gn : Array GenState) tk5 s', gs.bare = true → (∀ b o, h3.get? b = some o → h5.get? b = some o) → Moved (h3.objs.size :: wr) (GenOnlyQ s0.gens.size) { s2 with gens := s2.gens.push gs, toks := tk5, heap := h5 } s' → ∃ H2, Tabbed P H1 H2 ∧ Inv X pins σ H2 s') →
      Wk code { s2 with heap := h3, toks := tk }) :
    s2.heap.NoLimit ∧ wpAny (model X.prog X.w) X.A (genexprCode X.env gpos (X.env.qual ++ "<genexpr>") scope) (fun code s₃ => wpAny (model X.prog X.w) X.A (builtinsFor X.env.globals X.env.builtins) (fun bi s₄ => bi = builtinsNs ∧ Wk code s₄) X.xe s₃) X.xe s2 := by
  obtain ⟨ps, hP, ht⟩ := T
  obtain ⟨h2, tk2, rfl, k2, z2⟩ := hg
  have hPs : s0.heap.get? P = some { cls := .none, data := .fields ps } := I1.hok P _ hP
  have hPlt : P < s0.heap.objs.size := Heap.lt_size hPs
  have hP2 : h2.get? P = some { cls := .none, data := .fields ps } := k2 _ _ hPs
  have cd : PySem.W.CodeHd h2 c P := TB.code.keeps fun b u e => k2 b u (I1.bk b u e)
  have lim2 : h2.NoLimit := I1.nolimit.keeps k2
  have hcP : cStatics ≠ P := fun e => by
    obtain ⟨_, hns, _⟩ := I1.nolimit
    obtain ⟨o', es, ep, ho, hd, _⟩ := hns
    rw [e, hPs] at ho
    cases ho
    cases hd
  have hcl : cStatics < s0.heap.objs.size := let ⟨_, hns, _⟩ := I1.nolimit; hns.lt
  have hcw : cStatics ∉ wr := fun z => Nat.lt_irrefl _ (Nat.lt_of_lt_of_le hcl (hwr _ z))
  have cont : ∀ (code : Value) (h3 : Heap) (tk : Nat) (ps' : Array Value), Heap.ExtBut P h2 h3 → h2.objs.size ≤ h3.objs.size → h3.get? P = some { cls := .none, data := .fields ps' } → (∃ more, ps' = ps ++ more) → TriplesOk ps'.toList →
      wpAny (model X.prog X.w) X.A (builtinsFor X.env.globals X.env.builtins) (fun bi s₄ => bi = builtinsNs ∧ Wk code s₄) X.xe { s0 with heap := h3, toks := tk } := by
    intro code h3 tk ps' hx hsz hP3 hmore ht3
    obtain ⟨bm, ob, e1, e2, e3, e4, e5, e6, e7, e8⟩ := TB.bm
    have keep3 : ∀ b u, b ≠ P → s0.heap.get? b = some u → h3.get? b = some u := fun b u hb e => hx b u hb (k2 _ _ e)
    refine wpAny_builtinsFor (m := X.mg) (by rw [I1.ok.glob]; exact ((I1.mod.glob.keeps I1.bk).keeps k2).extBut hx TB.gP) e1 e2 (keep3 _ _ e4 (I1.bk _ _ e5)) e6 e7 e8 ⟨rfl, ?_⟩
    refine h code h3 tk hx hsz (lim2.extBut hx hcP) hcw keep3 fun h5 gs gn tk5 s' hgb hk5 hm => ?_
    obtain ⟨more, em⟩ := hmore
    have hs3 : s0.heap.objs.size ≤ h3.objs.size := Nat.le_trans z2 hsz
    have nwr : ∀ b u, s0.heap.get? b = some u → b ∉ h3.objs.size :: wr := fun b u e hb => by
      have hl := Heap.lt_size e
      rcases List.mem_cons.mp hb with z | z
      · rw [z] at hl
        exact absurd (Nat.lt_of_lt_of_le hl hs3) (Nat.lt_irrefl _)
      · exact Nat.lt_irrefl _ (Nat.lt_of_lt_of_le hl (hwr b z))
    have J := inv_tab (more := more) (h' := s'.heap) (g' := s'.gens) (d' := s'.drawn) (t' := s'.toks) I1 hP (fun b u hb e => hm.heap b u (nwr b u e) (hk5 b u (keep3 b u hb e)))
      (by rw [← em]; exact hm.heap P _ (nwr P _ hPs) (hk5 P _ hP3)) (AllBare.movedS (I1.bare.push hgb) hm)
    rw [sh_eta s0 s' hm.os] at J
    exact ⟨upd H1 P (.tbl (ps ++ more)), ⟨⟨ps ++ more, upd_same, by rw [← em]; exact ht3⟩, fun b hb => upd_ne hb⟩, J⟩
  refine ⟨lim2, ?_⟩
  cases hf : codeAmong gpos ps.toList with
  | none =>
    refine wpAny_genexprCodeX hcode (cd.code hP2 ht) (cd.tab hP2) hf fun c' h' tk hx hge hlt hco' _ htab' _ => ?_
    obtain ⟨o1, vs, f1, tf, fl, tg, inF, tx, tt, op, _, _, _, _, _, _, _, _, _, htr, _⟩ := hco'
    exact cont _ h' tk _ hx (Nat.le_trans hge (Nat.le_of_lt hlt)) htab'.2 ⟨_, rfl⟩ htr
  | some cv =>
    refine wpAny_genexprCode_hit hcode (cd.code hP2 ht) hf ?_
    exact cont cv h2 tk2 ps (Heap.ExtBut.refl _ _) (Nat.le_refl _) hP2 ⟨#[], by simp⟩ ht

/-- (elt for x in iter if ..): the generator -/
theorem gen1 {c P : Addr} {elt iter : Expr} {ifs : List Expr} {x : Str} {px gpos : Pos} {scope : Scope} {t : TS1} {tt : GB} {te : GV} {k : Nat} {Q' : Value → Shared → Prop} {R : List V → Hp → Prop}
    (hr : Room k X.A) (TB : TabB X.base X.mg c P) (hcode : X.env.code = .ref c) (S : GenN X.env.scope scope [x]) (hi : GS1 X iter t) (hts : GTs X P scope [x] ifs tt) (hel : GE X P scope [x] elt te)
    (hs : ∀ v, genFold iter X.env v = pure v) (I : Inv X pins σ H s)
    (h : t σ H fun vs H1 => TabG H1 P ∧ ∃ (pz : V → Bool) (F : V → V), (∀ x ∈ vs, tt [x] σ H1 (pz x)) ∧ (∀ x ∈ vs, pz x = true → te [x] σ H1 (F x)) ∧ R ((vs.filter pz).map F) H1)
    (hQ : ∀ L H1 g s5, R L H1 → Ready X pins σ H1 P L g s5 → Q' (.ref g) s5) :
    wpAny (model X.prog X.w) X.A (eval (.GeneratorExp elt [⟨.Name x px, iter, ifs, 0⟩] scope gpos) X.env) Q' X.xe s := by
  refine wpAny_GeneratorExp_walksQ hr.hd S.co (closure_ok (S.fr I)) S.cell S.dot (S.loc x List.mem_cons_self) S.kind (by have := hr.dp; omega) ?_ hs
  refine thn (hi.run pins s σ H _ I h) fun xv s1 h1 => thn h1 fun it s2 h2 => ?_
  obtain ⟨s0, H1, vs, I1, ⟨T, pz, F, ht, he, q⟩, hg, Ia, fp, wr, St, rfl, W, hst, hfp, hwr⟩ := h2
  have B := gen_behind (Wk := fun code s₄ => ∃ Ia' fp wr n₀ Pf St₀ pz' F', Value.ref Ia = .ref Ia' ∧ (∀ A' : Around, A'.handled = none → Walks X.prog X.w A' Ia' fp wr n₀ Pf St₀) ∧ St₀ 0 s₄.heap ∧ (∀ b ∈ fp, b < s₄.heap.objs.size) ∧ s₄.heap.NoLimit ∧ cStatics ∉ wr ∧
          (∀ href : Heap, (∀ b o, s₄.heap.get? b = some o → href.get? b = some o) →
            QuietGen X.prog X.w (genEnv scope (cloFrom X.env.cells scope.names []) s₄.heap.objs.size code builtinsNs X.env) x ifs elt (List.range s₄.heap.objs.size) wr Pf pz' F' href) ∧
          (∀ a h₅ tk gs, gs.bare = true → s₄.heap.objs.size < a → h₅.objs.size = a + 1 → (∀ b o, s₄.heap.get? b = some o → h₅.get? b = some o) →
            WalksS X.prog X.w X.A.in4 a (a :: s₄.heap.objs.size :: List.range s₄.heap.objs.size) (s₄.heap.objs.size :: wr) (GenOnlyQ s₄.gens.size) (passing pz' n₀ 0).length
              (fun j y => ∃ i, (passing pz' n₀ 0)[j]? = some i ∧ F' i y) (GenAt X.prog X.w X.A.in4 a s₄.gens.size s₄.heap.objs.size (List.range s₄.heap.objs.size) wr pz' n₀ F') →
            GenAt X.prog X.w X.A.in4 a s₄.gens.size s₄.heap.objs.size (List.range s₄.heap.objs.size) wr pz' n₀ F' 0 { s₄ with gens := s₄.gens.push gs, toks := tk, heap := h₅ } →
            Q' (.ref a) { s₄ with gens := s₄.gens.push gs, toks := tk, heap := h₅ })) (gpos := gpos) hr TB hcode S I1 hg T hwr ?_
  · refine ⟨B.1, thn B.2 fun code s₃ h3 => thn h3 fun bi s₄ ⟨e, h4⟩ => ?_⟩
    subst e
    exact h4
  intro code h3 tk hx hsz lim hcw kp3 done
  have hgens : s2.gens = s0.gens := by obtain ⟨h', tk', e, _⟩ := hg; rw [e]
  have hPn : ∀ b ∈ fp, b ≠ P := fun b hb z => by
    obtain ⟨o, ho, hc⟩ := hfp b hb
    obtain ⟨h', tk', e, k', _⟩ := hg
    obtain ⟨ps, hP, _⟩ := T
    have e1 : s2.heap.get? P = some { cls := .none, data := .fields ps } := by
      rw [e]
      exact k' _ _ (I1.hok P _ hP)
    rw [z, e1] at ho
    cases ho
    exact hc rfl
  have gf : Gf X scope (genEnv scope (cloFrom X.env.cells scope.names []) h3.objs.size code builtinsNs X.env) := ⟨rfl, S.kind, rfl, rfl, fun y c hf hc => clo_lookup hf hc⟩
  refine ⟨Ia, fp, wr, vs.length, _, St, fun i => (vs[i]?.map pz).getD false, fun i y => ∃ x, vs[i]? = some x ∧ RelV (F x) y, rfl, W, (W X.A hr.hd).frame _ _ _ hst fun b hb o e => hx b o (hPn b hb) e, fun b hb => ?_, lim, hcw, fun href hhref => ?_, ?_⟩
  · obtain ⟨o, ho, _⟩ := hfp b hb
    exact Heap.lt_size (hx b o (hPn b hb) ho)
  · have kpOf : ∀ s₂ : Shared, (∀ b ∈ List.range h3.objs.size, b ∉ wr → ∀ o, href.get? b = some o → s₂.heap.get? b = some o) → Kp P s0.heap s₂.heap := fun s₂ hk b o hb e => by
      have e3 := kp3 b o hb e
      refine hk b (List.mem_range.mpr (Heap.lt_size e3)) (fun z => ?_) o (hhref b o e3)
      exact Nat.lt_irrefl _ (Nat.lt_of_lt_of_le (Heap.lt_size e) (hwr b z))
    refine ⟨fun A' E' i v s₂ m₂ hA hPv hn hm hk => ?_, fun A' E' i v s₂ m₂ hA hPv hp hn hm hk => ?_⟩
    · obtain ⟨y, hy, rv⟩ := hPv
      have hz : (vs[i]?.map pz).getD false = pz y := by rw [hy]; rfl
      show wpAny _ _ _ (fun ok s₃ => ok = (vs[i]?.map pz).getD false ∧ Keeps s₂ s₃) _ _
      rw [hz]
      exact hts.run pins σ H1 s0 I1 T [y] [v] (pz y) (.cons rv .nil) rfl (ht y (List.mem_of_getElem? hy)) _ A' E' s₂ m₂ gf hn (fun p hp => by
        rcases List.mem_cons.mp hp with z | z
        · rw [z]; exact hm
        · cases z) (kpOf s₂ hk)
    · obtain ⟨y, hy, rv⟩ := hPv
      have hz : (vs[i]?.map pz).getD false = pz y := by rw [hy]; rfl
      have hp' : (vs[i]?.map pz).getD false = true := hp
      rw [hz] at hp'
      refine wpAny_mono (hel.run pins σ H1 s0 I1 T [y] [v] (F y) (.cons rv .nil) rfl (he y (List.mem_of_getElem? hy) hp') _ A' E' s₂ m₂ gf hn (fun p hp => by
        rcases List.mem_cons.mp hp with z | z
        · rw [z]; exact hm
        · cases z) (kpOf s₂ hk)) (fun u s₃ r => ⟨⟨y, hy, r.1⟩, r.2⟩) fun _ _ e => e
  · intro a h5 tk5 gs hgb hag hsz5 hk5 W5 hat
    have hlen : (passing (fun i => (vs[i]?.map pz).getD false) vs.length 0).length = ((vs.filter pz).map F).length := by rw [pass_len, List.length_map]
    refine hQ _ H1 a _ q ⟨_, _, _, _, _, hlen ▸ W5, hat, ?_, fun i s' st => st.1.typeIs, ?_, List.mem_cons_self, fun s' hm => ?_⟩
    · intro j y hy
      obtain ⟨i, hij, x', hx', r⟩ := hy
      refine ⟨F x', ?_, r⟩
      rw [List.getElem?_map, pass_at vs pz hij hx']
      rfl
    · intro b hb
      show b < h5.objs.size
      rw [hsz5]
      rcases List.mem_cons.mp hb with rfl | hb
      · exact Nat.lt_succ_self _
      · rcases List.mem_cons.mp hb with rfl | hb
        · exact Nat.lt_succ_of_lt hag
        · exact Nat.lt_succ_of_lt (Nat.lt_trans (List.mem_range.mp hb) hag)
    · refine done h5 gs #[] tk5 s' hgb hk5 ?_
      have hm' := hm
      simp only [hgens] at hm' ⊢
      exact hm'
/-- (elt for x in iter if ..): the generator -/
theorem gen1i {c P : Addr} {elt iter : Expr} {ifs : List Expr} {x : Str} {px gpos : Pos} {scope : Scope} {t : TS1} {tt : GB} {te : GV} {k : Nat} {Q' : Value → Shared → Prop} {R : List V → Hp → Prop}
    (hr : Room k X.A) (TB : TabB X.base X.mg c P) (hcode : X.env.code = .ref c) (S : GenN X.env.scope scope [x]) (hi : GS1 X iter t) (hts : GTs X P scope [x] ifs tt) (hel : GE X P scope [x] elt te)
    (hs : ∀ v, genFold iter X.env v = pure v) (I : Inv X pins σ H s)
    (h : t σ H fun vs H1 => TabG H1 P ∧ ∃ (pz : Nat → Bool) (F : Nat → V), (∀ i x, vs[i]? = some x → tt [x] σ H1 (pz i)) ∧ (∀ i x, vs[i]? = some x → pz i = true → te [x] σ H1 (F i)) ∧ R (((List.range vs.length).filter pz).map F) H1)
    (hQ : ∀ L H1 g s5, R L H1 → Ready X pins σ H1 P L g s5 → Q' (.ref g) s5) :
    wpAny (model X.prog X.w) X.A (eval (.GeneratorExp elt [⟨.Name x px, iter, ifs, 0⟩] scope gpos) X.env) Q' X.xe s := by
  refine wpAny_GeneratorExp_walksQ hr.hd S.co (closure_ok (S.fr I)) S.cell S.dot (S.loc x List.mem_cons_self) S.kind (by have := hr.dp; omega) ?_ hs
  refine thn (hi.run pins s σ H _ I h) fun xv s1 h1 => thn h1 fun it s2 h2 => ?_
  obtain ⟨s0, H1, vs, I1, ⟨T, pz, F, ht, he, q⟩, hg, Ia, fp, wr, St, rfl, W, hst, hfp, hwr⟩ := h2
  have B := gen_behind (Wk := fun code s₄ => ∃ Ia' fp wr n₀ Pf St₀ pz' F', Value.ref Ia = .ref Ia' ∧ (∀ A' : Around, A'.handled = none → Walks X.prog X.w A' Ia' fp wr n₀ Pf St₀) ∧ St₀ 0 s₄.heap ∧ (∀ b ∈ fp, b < s₄.heap.objs.size) ∧ s₄.heap.NoLimit ∧ cStatics ∉ wr ∧
          (∀ href : Heap, (∀ b o, s₄.heap.get? b = some o → href.get? b = some o) →
            QuietGen X.prog X.w (genEnv scope (cloFrom X.env.cells scope.names []) s₄.heap.objs.size code builtinsNs X.env) x ifs elt (List.range s₄.heap.objs.size) wr Pf pz' F' href) ∧
          (∀ a h₅ tk gs, gs.bare = true → s₄.heap.objs.size < a → h₅.objs.size = a + 1 → (∀ b o, s₄.heap.get? b = some o → h₅.get? b = some o) →
            WalksS X.prog X.w X.A.in4 a (a :: s₄.heap.objs.size :: List.range s₄.heap.objs.size) (s₄.heap.objs.size :: wr) (GenOnlyQ s₄.gens.size) (passing pz' n₀ 0).length
              (fun j y => ∃ i, (passing pz' n₀ 0)[j]? = some i ∧ F' i y) (GenAt X.prog X.w X.A.in4 a s₄.gens.size s₄.heap.objs.size (List.range s₄.heap.objs.size) wr pz' n₀ F') →
            GenAt X.prog X.w X.A.in4 a s₄.gens.size s₄.heap.objs.size (List.range s₄.heap.objs.size) wr pz' n₀ F' 0 { s₄ with gens := s₄.gens.push gs, toks := tk, heap := h₅ } →
            Q' (.ref a) { s₄ with gens := s₄.gens.push gs, toks := tk, heap := h₅ })) (gpos := gpos) hr TB hcode S I1 hg T hwr ?_
  · refine ⟨B.1, thn B.2 fun code s₃ h3 => thn h3 fun bi s₄ ⟨e, h4⟩ => ?_⟩
    subst e
    exact h4
  intro code h3 tk hx hsz lim hcw kp3 done
  have hgens : s2.gens = s0.gens := by obtain ⟨h', tk', e, _⟩ := hg; rw [e]
  have hPn : ∀ b ∈ fp, b ≠ P := fun b hb z => by
    obtain ⟨o, ho, hc⟩ := hfp b hb
    obtain ⟨h', tk', e, k', _⟩ := hg
    obtain ⟨ps, hP, _⟩ := T
    have e1 : s2.heap.get? P = some { cls := .none, data := .fields ps } := by
      rw [e]
      exact k' _ _ (I1.hok P _ hP)
    rw [z, e1] at ho
    cases ho
    exact hc rfl
  have gf : Gf X scope (genEnv scope (cloFrom X.env.cells scope.names []) h3.objs.size code builtinsNs X.env) := ⟨rfl, S.kind, rfl, rfl, fun y c hf hc => clo_lookup hf hc⟩
  refine ⟨Ia, fp, wr, vs.length, _, St, pz, fun i y => RelV (F i) y, rfl, W, (W X.A hr.hd).frame _ _ _ hst fun b hb o e => hx b o (hPn b hb) e, fun b hb => ?_, lim, hcw, fun href hhref => ?_, ?_⟩
  · obtain ⟨o, ho, _⟩ := hfp b hb
    exact Heap.lt_size (hx b o (hPn b hb) ho)
  · have kpOf : ∀ s₂ : Shared, (∀ b ∈ List.range h3.objs.size, b ∉ wr → ∀ o, href.get? b = some o → s₂.heap.get? b = some o) → Kp P s0.heap s₂.heap := fun s₂ hk b o hb e => by
      have e3 := kp3 b o hb e
      refine hk b (List.mem_range.mpr (Heap.lt_size e3)) (fun z => ?_) o (hhref b o e3)
      exact Nat.lt_irrefl _ (Nat.lt_of_lt_of_le (Heap.lt_size e) (hwr b z))
    refine ⟨fun A' E' i v s₂ m₂ hA hPv hn hm hk => ?_, fun A' E' i v s₂ m₂ hA hPv hp hn hm hk => ?_⟩
    · obtain ⟨y, hy, rv⟩ := hPv
      exact hts.run pins σ H1 s0 I1 T [y] [v] (pz i) (.cons rv .nil) rfl (ht i y hy) _ A' E' s₂ m₂ gf hn (fun p hp => by
        rcases List.mem_cons.mp hp with z | z
        · rw [z]; exact hm
        · cases z) (kpOf s₂ hk)
    · obtain ⟨y, hy, rv⟩ := hPv
      have hp' : pz i = true := hp
      refine wpAny_mono (hel.run pins σ H1 s0 I1 T [y] [v] (F i) (.cons rv .nil) rfl (he i y hy hp') _ A' E' s₂ m₂ gf hn (fun p hp => by
        rcases List.mem_cons.mp hp with z | z
        · rw [z]; exact hm
        · cases z) (kpOf s₂ hk)) (fun u s₃ r => ⟨r.1, r.2⟩) fun _ _ e => e
  · intro a h5 tk5 gs hgb hag hsz5 hk5 W5 hat
    have epass : passing pz vs.length 0 = (List.range vs.length).filter pz := by simp [passing]
    have hlen : (passing pz vs.length 0).length = (((List.range vs.length).filter pz).map F).length := by rw [epass, List.length_map]
    refine hQ _ H1 a _ q ⟨_, _, _, _, _, hlen ▸ W5, hat, ?_, fun i s' st => st.1.typeIs, ?_, List.mem_cons_self, fun s' hm => ?_⟩
    · intro j y hy
      obtain ⟨i, hij, r⟩ := hy
      refine ⟨F i, ?_, r⟩
      rw [epass] at hij
      rw [List.getElem?_map, hij]
      rfl
    · intro b hb
      show b < h5.objs.size
      rw [hsz5]
      rcases List.mem_cons.mp hb with rfl | hb
      · exact Nat.lt_succ_self _
      · rcases List.mem_cons.mp hb with rfl | hb
        · exact Nat.lt_succ_of_lt hag
        · exact Nat.lt_succ_of_lt (Nat.lt_trans (List.mem_range.mp hb) hag)
    · refine done h5 gs #[] tk5 s' hgb hk5 ?_
      have hm' := hm
      simp only [hgens] at hm' ⊢
      exact hm'
/-- (elt for x in iter if ..): the generator -/
theorem gen2 {c P : Addr} {elt iter : Expr} {ifs : List Expr} {xa xb : Str} {pa pb pt gpos : Pos} {kt : Nat} {scope : Scope} {t : TS2} {tt : GB} {te : GV} {k : Nat} {Q' : Value → Shared → Prop} {R : List V → Hp → Prop}
    (hr : Room k X.A) (TB : TabB X.base X.mg c P) (hcode : X.env.code = .ref c) (S : GenN X.env.scope scope [xa, xb]) (hi : GS2 X iter t) (hts : GTs X P scope [xa, xb] ifs tt) (hel : GE X P scope [xa, xb] elt te)
    (hab : xa ≠ xb) (hs : ∀ v, genFold iter X.env v = pure v) (I : Inv X pins σ H s)
    (h : t σ H fun vs H1 => TabG H1 P ∧ ∃ (pz : V × V → Bool) (F : V × V → V), (∀ x ∈ vs, tt [x.1, x.2] σ H1 (pz x)) ∧ (∀ x ∈ vs, pz x = true → te [x.1, x.2] σ H1 (F x)) ∧ R ((vs.filter pz).map F) H1)
    (hQ : ∀ L H1 g s5, R L H1 → Ready X pins σ H1 P L g s5 → Q' (.ref g) s5) :
    wpAny (model X.prog X.w) X.A (eval (.GeneratorExp elt [⟨.Tuple [.Name xa pa, .Name xb pb] kt pt, iter, ifs, 0⟩] scope gpos) X.env) Q' X.xe s := by
  refine wpAny_GeneratorExp_walksQT hr.hd S.co (closure_ok (S.fr I)) S.cell S.dot (S.loc xa List.mem_cons_self) (S.loc xb (List.mem_cons_of_mem _ List.mem_cons_self)) hab S.kind (by have := hr.dp; omega) ?_ hs
  refine thn (hi.run pins s σ H _ I h) fun xv s1 h1 => thn h1 fun it s2 h2 => ?_
  obtain ⟨s0, H1, vs, I1, ⟨T, pz, F, ht, he, q⟩, hg, Ia, fp, wr, St, Mid, rfl, W, hst, hfp, hwr⟩ := h2
  have B := gen_behind (Wk := fun code s₄ => ∃ Ia' fp wr n₀ Pf St₀ Mid pz' F', Value.ref Ia = .ref Ia' ∧ (∀ A' : Around, A'.handled = none → WalksU X.prog X.w A' Ia' fp wr n₀ Pf St₀ Mid) ∧ (∀ i vals, Pf i vals → ∃ va vb, vals = #[va, vb]) ∧ St₀ 0 s₄.heap ∧ (∀ b ∈ fp, b < s₄.heap.objs.size) ∧ s₄.heap.NoLimit ∧ cStatics ∉ wr ∧
          (∀ href : Heap, (∀ b o, s₄.heap.get? b = some o → href.get? b = some o) →
            QuietGenT X.prog X.w (genEnv scope (cloFrom X.env.cells scope.names []) s₄.heap.objs.size code builtinsNs X.env) xa xb ifs elt (List.range s₄.heap.objs.size) wr Pf pz' F' href) ∧
          (∀ a h₅ tk gs, gs.bare = true → s₄.heap.objs.size < a → h₅.objs.size = a + 1 → (∀ b o, s₄.heap.get? b = some o → h₅.get? b = some o) →
            WalksS X.prog X.w X.A.in4 a (a :: s₄.heap.objs.size :: List.range s₄.heap.objs.size) (s₄.heap.objs.size :: wr) (GenOnlyQ s₄.gens.size) (passing pz' n₀ 0).length
              (fun j y => ∃ i, (passing pz' n₀ 0)[j]? = some i ∧ F' i y) (GenAt X.prog X.w X.A.in4 a s₄.gens.size s₄.heap.objs.size (List.range s₄.heap.objs.size) wr pz' n₀ F') →
            GenAt X.prog X.w X.A.in4 a s₄.gens.size s₄.heap.objs.size (List.range s₄.heap.objs.size) wr pz' n₀ F' 0 { s₄ with gens := s₄.gens.push gs, toks := tk, heap := h₅ } →
            Q' (.ref a) { s₄ with gens := s₄.gens.push gs, toks := tk, heap := h₅ })) (gpos := gpos) hr TB hcode S I1 hg T hwr ?_
  · refine ⟨B.1, thn B.2 fun code s₃ h3 => thn h3 fun bi s₄ ⟨e, h4⟩ => ?_⟩
    subst e
    exact h4
  intro code h3 tk hx hsz lim hcw kp3 done
  have hgens : s2.gens = s0.gens := by obtain ⟨h', tk', e, _⟩ := hg; rw [e]
  have hPn : ∀ b ∈ fp, b ≠ P := fun b hb z => by
    obtain ⟨o, ho, hc⟩ := hfp b hb
    obtain ⟨h', tk', e, k', _⟩ := hg
    obtain ⟨ps, hP, _⟩ := T
    have e1 : s2.heap.get? P = some { cls := .none, data := .fields ps } := by
      rw [e]
      exact k' _ _ (I1.hok P _ hP)
    rw [z, e1] at ho
    cases ho
    exact hc rfl
  have gf : Gf X scope (genEnv scope (cloFrom X.env.cells scope.names []) h3.objs.size code builtinsNs X.env) := ⟨rfl, S.kind, rfl, rfl, fun y c hf hc => clo_lookup hf hc⟩
  refine ⟨Ia, fp, wr, vs.length, _, St, Mid, fun i => (vs[i]?.map pz).getD false, fun i y => ∃ x, vs[i]? = some x ∧ RelV (F x) y, rfl, W, (fun i vals hv => by obtain ⟨va, vb, _, _, e, _⟩ := hv; exact ⟨va, vb, e⟩), (W X.A hr.hd).frame _ _ _ hst fun b hb o e => hx b o (hPn b hb) e, fun b hb => ?_, lim, hcw, fun href hhref => ?_, ?_⟩
  · obtain ⟨o, ho, _⟩ := hfp b hb
    exact Heap.lt_size (hx b o (hPn b hb) ho)
  · have kpOf : ∀ s₂ : Shared, (∀ b ∈ List.range h3.objs.size, b ∉ wr → ∀ o, href.get? b = some o → s₂.heap.get? b = some o) → Kp P s0.heap s₂.heap := fun s₂ hk b o hb e => by
      have e3 := kp3 b o hb e
      refine hk b (List.mem_range.mpr (Heap.lt_size e3)) (fun z => ?_) o (hhref b o e3)
      exact Nat.lt_irrefl _ (Nat.lt_of_lt_of_le (Heap.lt_size e) (hwr b z))
    refine ⟨fun A' E' i va vb s₂ m₂ hA hPv hn hm hmb hk => ?_, fun A' E' i va vb s₂ m₂ hA hPv hp hn hm hmb hk => ?_⟩
    · obtain ⟨va', vb', ya, yb, ev, hy, rva, rvb⟩ := hPv
      obtain ⟨e1, e2⟩ : va = va' ∧ vb = vb' := by simpa using congrArg Array.toList ev
      subst e1 e2
      have hz : (vs[i]?.map pz).getD false = pz (ya, yb) := by rw [hy]; rfl
      show wpAny _ _ _ (fun ok s₃ => ok = (vs[i]?.map pz).getD false ∧ Keeps s₂ s₃) _ _
      rw [hz]
      exact hts.run pins σ H1 s0 I1 T [ya, yb] [va, vb] (pz (ya, yb)) (.cons rva (.cons rvb .nil)) rfl (ht (ya, yb) (List.mem_of_getElem? hy)) _ A' E' s₂ m₂ gf hn (fun p hp => by
        rcases List.mem_cons.mp hp with z | z
        · rw [z]; exact hm
        · rcases List.mem_cons.mp z with z | z
          · rw [z]; exact hmb
          · cases z) (kpOf s₂ hk)
    · obtain ⟨va', vb', ya, yb, ev, hy, rva, rvb⟩ := hPv
      obtain ⟨e1, e2⟩ : va = va' ∧ vb = vb' := by simpa using congrArg Array.toList ev
      subst e1 e2
      have hz : (vs[i]?.map pz).getD false = pz (ya, yb) := by rw [hy]; rfl
      have hp' : (vs[i]?.map pz).getD false = true := hp
      rw [hz] at hp'
      refine wpAny_mono (hel.run pins σ H1 s0 I1 T [ya, yb] [va, vb] (F (ya, yb)) (.cons rva (.cons rvb .nil)) rfl (he (ya, yb) (List.mem_of_getElem? hy) hp') _ A' E' s₂ m₂ gf hn (fun p hp => by
        rcases List.mem_cons.mp hp with z | z
        · rw [z]; exact hm
        · rcases List.mem_cons.mp z with z | z
          · rw [z]; exact hmb
          · cases z) (kpOf s₂ hk)) (fun u s₃ r => ⟨⟨(ya, yb), hy, r.1⟩, r.2⟩) fun _ _ e => e
  · intro a h5 tk5 gs hgb hag hsz5 hk5 W5 hat
    have hlen : (passing (fun i => (vs[i]?.map pz).getD false) vs.length 0).length = ((vs.filter pz).map F).length := by rw [pass_len, List.length_map]
    refine hQ _ H1 a _ q ⟨_, _, _, _, _, hlen ▸ W5, hat, ?_, fun i s' st => st.1.typeIs, ?_, List.mem_cons_self, fun s' hm => ?_⟩
    · intro j y hy
      obtain ⟨i, hij, x', hx', r⟩ := hy
      refine ⟨F x', ?_, r⟩
      rw [List.getElem?_map, pass_at vs pz hij hx']
      rfl
    · intro b hb
      show b < h5.objs.size
      rw [hsz5]
      rcases List.mem_cons.mp hb with rfl | hb
      · exact Nat.lt_succ_self _
      · rcases List.mem_cons.mp hb with rfl | hb
        · exact Nat.lt_succ_of_lt hag
        · exact Nat.lt_succ_of_lt (Nat.lt_trans (List.mem_range.mp hb) hag)
    · refine done h5 gs #[] tk5 s' hgb hk5 ?_
      have hm' := hm
      simp only [hgens] at hm' ⊢
      exact hm'
end
end G9
set_option Elab.async false
set_option linter.all false
set_option maxRecDepth 100000
set_option maxHeartbeats 2000000
namespace G9
open PySem PySem.Spec PyProof.Rows L2 GxR

theorem wpAny_letOwnedTupleGo_tupleiter {prog : Program} {w : World} {A : Around} {E : Value → Shared → Prop} {s : Shared} {elts : List Expr} {x1} {pos : Pos} {I l T : Addr} {i : Nat} {Q : Unit → Shared → Prop} (hit : s.heap.IsTupleIter I l i) (hQ : Q () s) :
    wpAny (model prog w) A (letOwnedTupleGo (.Tuple elts x1 pos) (.ref I) (.ref T)) Q E s := by
  obtain ⟨o, ho, hc, hd⟩ := hit
  unfold letOwnedTupleGo
  refine wpAny_bind (wpAny_load ho ?_)
  rw [hc, hd]
  show wpAny _ A (if (["enumerate", "zip", "dict_itemiterator", "dict_reverseitemiterator", "odict_iterator", "itertools.zip_longest", "itertools.pairwise"].contains "tuple_iterator" &&
      (#[.ref l, .int i 0] : Array Value)[0]? == some (rawInt T)) = true then _ else _) Q E s
  rw [if_neg (by
    intro h
    rw [show (["enumerate", "zip", "dict_itemiterator", "dict_reverseitemiterator", "odict_iterator", "itertools.zip_longest", "itertools.pairwise"].contains "tuple_iterator") = false from by decide, Bool.false_and] at h
    cases h)]
  exact wpAny_pure hQ

theorem WalksU.tupleOfTuples {prog : Program} {w : World} {A : Around} (hh : A.handled = none) (I ax : Addr) (hne : ax ≠ I) (items : Array Value) (Ts : Nat → Addr) (vals : Nat → Array Value)
    (hit : ∀ j, j < items.size → items[j]? = some (.ref (Ts j))) (hTI : ∀ j, j < items.size → Ts j ≠ I) :
    WalksU prog w A I (I :: ax :: (List.range items.size).map Ts) [I] items.size (fun j v => j < items.size ∧ v = vals j)
      (fun j h => h.IsTupleIter I ax j ∧ h.IsTuple ax items ∧ ∀ k, k < items.size → h.IsTuple (Ts k) (vals k))
      (fun j T h => (j < items.size ∧ T = Ts j) ∧ h.IsTupleIter I ax (j + 1) ∧ h.IsTuple ax items ∧ ∀ k, k < items.size → h.IsTuple (Ts k) (vals k)) where
  sub := fun b hb => by simp at hb; simp [hb]
  frame := fun _ _ _ st hk => ⟨st.1.at fun o e => hk I (by simp) o e, st.2.1.at fun o e => hk ax (by simp) o e,
    fun k hk' => (st.2.2 k hk').at fun o e => hk (Ts k) (List.mem_cons_of_mem _ (List.mem_cons_of_mem _ (List.mem_map.mpr ⟨k, List.mem_range.mpr hk', rfl⟩))) o e⟩
  item := fun i s Q E hi st hQ => by
    refine wpAny_pyNext_tuple_item st.1 st.2.1 (x := .ref (Ts i)) (hit i hi) fun h' hit' hs' => ?_
    have tup : ∀ k, k < items.size → h'.IsTuple (Ts k) (vals k) := fun k hk' => (st.2.2 k hk').extBut hs'.extBut (hTI k hk')
    exact hQ (Ts i) (vals i) h' s.toks ⟨hi, rfl⟩ (tup i hi) ⟨⟨hi, rfl⟩, hit', st.2.1.extBut hs'.extBut hne, tup⟩ fun b o hb e => hs'.extBut b o (fun h => hb (by simp [h])) e
  go := fun _ _ _ _ _ s Q _ hm hQ => wpAny_letOwnedTupleGo_tupleiter hm.2.1 (hQ s.heap hm.2 fun _ _ _ e => e)
  apart := fun j T _ hm hmem => by
    rcases List.mem_cons.mp hmem with e | e
    · exact hTI j hm.1.1 (hm.1.2 ▸ e)
    · cases e
  done := fun s Q E st hQ => wpAny_pyNext_tuple_end hh st.1 st.2.1 (by simp) fun h' he' => hQ h' s.toks fun b o hb e => he' b o (fun h => hb (by simp [h])) e
  self := fun _ _ _ _ st hQ => wpAny_pyIter_tupleiter st.1 hQ

section
variable {X : Cx} {iter : Expr} {te : TE}
theorem grew_push {s : Shared} {o : Obj} : Grew s { s with heap := s.heap.push o } := ⟨_, s.toks, rfl, fun _ _ e => Heap.get?_push_of_some _ e, by rw [Heap.size_push]; exact Nat.le_succ _⟩
/-- x in a tuple or a list -/
def tSeq (K : PySem.W.Frag) (te : TE) : TS1 := fun σ H R => te σ H fun v H1 => ∃ a vs, v = .ref a ∧ (SqL K H1 a vs ∨ SqT K H1 a vs) ∧ R vs H1
theorem gs_seq (h : PE X iter te) (hh : X.A.handled = none := by rfl) : GS1 X iter (tSeq X.K te) := by
  refine ⟨fun pins s σ H R I q => thn (h.run pins s σ H _ I q) fun xv s1 ⟨v, H1, I1, r1, a, vs, e, hq, q1⟩ => ?_⟩
  subst e
  cases r1
  rcases hq with hq | hq
  · obtain ⟨its, r', pl, hz⟩ := I1.list hq
    obtain ⟨o, ho, hc, rest⟩ := pl.isList
    have hlt := Heap.lt_size ho
    refine wpAny_pyIter_list pl.isList ⟨s1, H1, vs, I1, q1, grew_push, s1.heap.objs.size, [s1.heap.objs.size, a], [s1.heap.objs.size], (fun i h => h.IsListIter s1.heap.objs.size a i ∧ h.IsList a its.toArray), rfl, fun A' hA => ?_, ⟨⟨_, Heap.get?_push_size _ rfl, rfl, rfl⟩, pl.isList.push _⟩, fun b hb => ?_, fun b hb => by rw [List.mem_singleton.mp hb]; exact Nat.le_refl _⟩
    · have W := Walks.list (prog := X.prog) (w := X.w) hA s1.heap.objs.size a (Nat.ne_of_lt hlt) its.toArray
      have e : its.toArray.size = vs.length := by simp [r'.length]
      rw [← e]
      exact { W with item := fun i s Q E hi st hQ => W.item i s Q E hi st fun v h' tk hv => hQ v h' tk (by
          obtain ⟨x, hx, rx⟩ : ∃ x, vs[i]? = some x ∧ RelV x v := by
            have hl : i < vs.length := by rw [← e]; exact hi
            obtain ⟨u, hu, ru⟩ := Vals.get r' (List.getElem?_eq_getElem hl)
            have hv' : its[i]? = some v := by simpa using hv
            rw [hu] at hv'
            cases hv'
            exact ⟨_, List.getElem?_eq_getElem hl, ru⟩
          exact ⟨x, hx, rx⟩) }
    · rcases List.mem_cons.mp hb with z | z
      · exact ⟨_, by rw [z]; exact Heap.get?_push_size _ rfl, by simp⟩
      · rw [List.mem_singleton.mp z]
        exact ⟨o, Heap.get?_push_of_some _ ho, by rw [hc]; simp⟩
  · obtain ⟨its, r', pl, hz⟩ := I1.tuple hq
    obtain ⟨o, ho, hc, rest⟩ := id pl
    have hlt := Heap.lt_size ho
    refine wpAny_pyIter_tuple pl ⟨s1, H1, vs, I1, q1, grew_push, s1.heap.objs.size, [s1.heap.objs.size, a], [s1.heap.objs.size], (fun i h => h.IsTupleIter s1.heap.objs.size a i ∧ h.IsTuple a its.toArray), rfl, fun A' hA => ?_, ⟨⟨_, Heap.get?_push_size _ rfl, rfl, rfl⟩, Heap.IsTuple.at pl fun o e => Heap.get?_push_of_some _ e⟩, fun b hb => ?_, fun b hb => by rw [List.mem_singleton.mp hb]; exact Nat.le_refl _⟩
    · have W := Walks.tuple (prog := X.prog) (w := X.w) hA s1.heap.objs.size a (Nat.ne_of_lt hlt) its.toArray
      have e : its.toArray.size = vs.length := by simp [r'.length]
      rw [← e]
      exact { W with item := fun i s Q E hi st hQ => W.item i s Q E hi st fun v h' tk hv => hQ v h' tk (by
          obtain ⟨x, hx, rx⟩ : ∃ x, vs[i]? = some x ∧ RelV x v := by
            have hl : i < vs.length := by rw [← e]; exact hi
            obtain ⟨u, hu, ru⟩ := Vals.get r' (List.getElem?_eq_getElem hl)
            have hv' : its[i]? = some v := by simpa using hv
            rw [hu] at hv'
            cases hv'
            exact ⟨_, List.getElem?_eq_getElem hl, ru⟩
          exact ⟨x, hx, rx⟩) }
    · rcases List.mem_cons.mp hb with z | z
      · exact ⟨_, by rw [z]; exact Heap.get?_push_size _ rfl, by simp⟩
      · rw [List.mem_singleton.mp z]
        exact ⟨o, Heap.get?_push_of_some _ ho, by rw [hc]; simp⟩

/-- a, b in a tuple of pairs -/
def PairsAt (K : PySem.W.Frag) (H : Hp) (a : Addr) (ps : List (V × V)) : Prop := ∃ ts : List Addr, SqT K H a (ts.map V.ref) ∧ ts.length = ps.length ∧ ∀ (j : Nat) (t : Addr) (p : V × V), ts[j]? = some t → ps[j]? = some p → SqT K H t [p.1, p.2]
def tPairs (K : PySem.W.Frag) (te : TE) : TS2 := fun σ H R => te σ H fun v H1 => ∃ a ps, v = .ref a ∧ PairsAt K H1 a ps ∧ R ps H1
theorem gs_pairs (h : PE X iter te) : GS2 X iter (tPairs X.K te) := by
  refine ⟨fun pins s σ H R I q => thn (h.run pins s σ H _ I q) fun xv s1 ⟨v, H1, I1, r1, a, ps, e, ⟨ts, hq, hl, hp⟩, q1⟩ => ?_⟩
  subst e
  cases r1
  obtain ⟨its, r', pl, hz⟩ := I1.tuple hq
  obtain ⟨o, ho, hc, rest⟩ := id pl
  have hlt := Heap.lt_size ho
  have hlen : its.length = ts.length := by simpa using r'.length.symm
  have refs : ∀ j, j < its.toArray.size → ∃ t p va vb, ts[j]? = some t ∧ ps[j]? = some p ∧ its.toArray[j]? = some (.ref t) ∧ IsTup s1.heap t #[va, vb] ∧ RelV p.1 va ∧ RelV p.2 vb := fun j hj => by
    have hj1 : j < ts.length := by rw [← hlen]; simpa using hj
    have hj2 : j < ps.length := by rw [← hl]; exact hj1
    have e1 := List.getElem?_eq_getElem hj1
    have e2 := List.getElem?_eq_getElem hj2
    obtain ⟨u, hu, ru⟩ := Vals.get r' (i := j) (x := V.ref ts[j]) (by rw [List.getElem?_map, e1]; rfl)
    cases ru
    obtain ⟨its2, r2, pl2, _⟩ := I1.tuple (hp j _ _ e1 e2)
    cases r2 with
    | cons ra rb =>
      cases rb with
      | cons rb rc =>
        cases rc
        exact ⟨_, _, _, _, e1, e2, by simpa using hu, pl2, ra, rb⟩
  have hsz : its.toArray.size = ps.length := by simp [hlen, hl]
  let Ts : Nat → Addr := fun j => ts.getD j 0
  have hTs : ∀ j t, ts[j]? = some t → Ts j = t := fun j t e => by
    show ts.getD j 0 = t
    rw [List.getD_eq_getElem?_getD, e]
    rfl
  have : ∃ vals : Nat → Array Value, ∀ j, j < its.toArray.size → IsTup s1.heap (Ts j) (vals j) ∧ ∃ va vb x y, vals j = #[va, vb] ∧ ps[j]? = some (x, y) ∧ RelV x va ∧ RelV y vb := by
    refine ⟨fun j => if hj : j < its.toArray.size then #[(refs j hj).choose_spec.choose_spec.choose, (refs j hj).choose_spec.choose_spec.choose_spec.choose] else #[], fun j hj => ?_⟩
    have z := (refs j hj).choose_spec.choose_spec.choose_spec.choose_spec
    simp only [dif_pos hj]
    refine ⟨?_, _, _, _, _, rfl, z.2.1, z.2.2.2.2.1, z.2.2.2.2.2⟩
    rw [hTs j _ z.1]
    exact z.2.2.2.1
  obtain ⟨vals, hv⟩ := this
  have hTlt : ∀ j, j < its.toArray.size → ∃ o, s1.heap.get? (Ts j) = some o ∧ o.cls ≠ .none := fun j hj => by
    obtain ⟨o, ho, hc, _⟩ := (hv j hj).1
    exact ⟨o, ho, by rw [hc]; simp⟩
  refine wpAny_pyIter_tuple pl ⟨s1, H1, ps, I1, q1, grew_push, s1.heap.objs.size, s1.heap.objs.size :: a :: (List.range its.toArray.size).map Ts, [s1.heap.objs.size], (fun j h => h.IsTupleIter s1.heap.objs.size a j ∧ h.IsTuple a its.toArray ∧ ∀ k, k < its.toArray.size → h.IsTuple (Ts k) (vals k)), (fun j T h => (j < its.toArray.size ∧ T = Ts j) ∧ h.IsTupleIter s1.heap.objs.size a (j + 1) ∧ h.IsTuple a its.toArray ∧ ∀ k, k < its.toArray.size → h.IsTuple (Ts k) (vals k)), rfl, fun A' hA => ?_,
    ⟨⟨_, Heap.get?_push_size _ rfl, rfl, rfl⟩, Heap.IsTuple.at pl fun o e => Heap.get?_push_of_some _ e, fun k hk => Heap.IsTuple.at (hv k hk).1 fun o e => Heap.get?_push_of_some _ e⟩, fun b hb => ?_, fun b hb => by rw [List.mem_singleton.mp hb]; exact Nat.le_refl _⟩
  · have W := WalksU.tupleOfTuples (prog := X.prog) (w := X.w) hA s1.heap.objs.size a (Nat.ne_of_lt hlt) its.toArray Ts vals (fun j hj => by
        obtain ⟨t, p, va, vb, e1, e2, e3, _⟩ := refs j hj
        rw [hTs j t e1]
        exact e3) (fun j hj => by
        obtain ⟨o, ho, _⟩ := hTlt j hj
        exact Nat.ne_of_lt (Heap.lt_size ho))
    rw [← hsz]
    exact { W with item := fun i s Q E hi st hQ => W.item i s Q E hi st fun T vs' h' tk hvv => hQ T vs' h' tk (by
        obtain ⟨hi', rfl⟩ := hvv
        exact (hv i hi').2) }
  · rcases List.mem_cons.mp hb with z | z
    · exact ⟨_, by rw [z]; exact Heap.get?_push_size _ rfl, by simp⟩
    · rcases List.mem_cons.mp z with z | z
      · rw [z]
        exact ⟨o, Heap.get?_push_of_some _ ho, by rw [hc]; simp⟩
      · obtain ⟨j, hj, rfl⟩ := List.mem_map.mp z
        obtain ⟨o, ho, hc⟩ := hTlt j (List.mem_range.mp hj)
        exact ⟨o, Heap.get?_push_of_some _ ho, hc⟩
end
end G9
set_option Elab.async false
set_option linter.all false
set_option maxRecDepth 100000
set_option maxHeartbeats 2000000
namespace G9
open PySem PySem.Spec PyProof.Rows L2 GxR
open Sem (wp)

set_option maxHeartbeats 4000000 in
theorem meets_enum1 {v : Value} {o : Obj} {H : Heap → Prop} (B : Begins v o H) :
    Meets (Builtin.«enumerate.__new__» ⟨[.type "enumerate", v], []⟩) (fun _ R s => H s.heap ∧
      R (.ok (.ret (.ref (s.heap.push o).objs.size))) { s with heap := (s.heap.push o).push { cls := .type "enumerate", data := .fields #[.none, .bool false, .ref s.heap.objs.size, rawInt 0, .none, .none] } }) :=
  .of_wp fun prog w A R s h => by
    obtain ⟨hp, g, d, tk, os⟩ := s; obtain ⟨h1, h⟩ := h
    have hsub := sub_enumerate
    have q1 : ∀ {A' : Around} {E : Value → Shared → Prop} {Q : Value → Shared → Prop}, Q (.ref hp.objs.size) ⟨hp.push o, g, d, tk, os⟩ → wpAny (model prog w) A' (pyIter v) Q E ⟨hp, g, d, tk, os⟩ :=
      fun q => B.iter prog w _ _ ⟨hp, g, d, tk, os⟩ _ h1 q
    wp_walk using q1
    refine wpAny_stack_any fun st => wpAny_pure ?_
    split
    · rename_i c _ _ _ _ _
      cases (c == Value.type "enumerate")
      · wp_walk using q1
        exact ⟨_, rfl, h⟩
      · wp_walk using q1
        exact ⟨_, rfl, h⟩
    · wp_walk using q1
      exact ⟨_, rfl, h⟩
theorem enum_begins1 {prog : Program} {w : World} {A : Around} {E : Value → Shared → Prop} {s : Shared} {v : Value} {o : Obj} {H : Heap → Prop} {Q : Value → Shared → Prop} (B : Begins v o H) (h1 : H s.heap)
    (h : ∀ h', IsEnum h' (s.heap.objs.size + 1) s.heap.objs.size 0 .none → h'.get? s.heap.objs.size = some o → h'.objs.size = s.heap.objs.size + 2 →
      (∀ b o, s.heap.get? b = some o → h'.get? b = some o) → Q (.ref (s.heap.objs.size + 1)) { s with heap := h' }) :
    wpAny (model prog w) A (call (.type "enumerate") [v]) Q E s := by
  refine callType_new F.called_enumerate (by decide) (F.typeCall_enumerate_1 _) (F.newCall_enumerate_1 _) (fun obj => F.args_object_init_2 obj _) F.entry_enumerate_new
    (meets_enum1 B) ⟨h1, ?_⟩
  have hz : (s.heap.push o).objs.size = s.heap.objs.size + 1 := Heap.size_push ..
  show _ ∧ _
  rw [hz]
  have he : IsEnum ((s.heap.push o).push { cls := .type "enumerate", data := .fields #[.none, .bool false, .ref s.heap.objs.size, rawInt 0, .none, .none] }) (s.heap.objs.size + 1) s.heap.objs.size 0 .none := by
    have := Heap.get?_push_size (s.heap.push o) (o := { cls := .type "enumerate", data := .fields #[.none, .bool false, .ref s.heap.objs.size, rawInt 0, .none, .none] }) rfl
    rw [hz] at this; exact this
  refine ⟨⟨_, he, rfl⟩, h _ he (Heap.get?_push_of_some _ (Heap.get?_push_size _ B.free)) (by rw [Heap.size_push, hz]) fun b o x => Heap.get?_push_of_some _ (Heap.get?_push_of_some _ x)⟩

/-! ### for i, x in enumerate(a tuple) -/
def IteT (K : PySem.W.Frag) (a : Addr) : It :=
  ⟨fun i H => ∃ (xs : List V) (x : V), SqT K H a xs ∧ xs[i]? = some x, fun i H v H' => ∃ T x, v = .ref T ∧ H T = none ∧ H' = upd H T (.tup [.int (i : Nat), x]) ∧ ∀ xs, SqT K H a xs → xs[i]? = some x, fun i H => ∃ xs : List V, SqT K H a xs ∧ xs.length = i⟩
theorem turn_enumT {P : Program} {w : World} {K : PySem.W.Frag} {elts : List Expr} {kk : Nat} {tpos : Pos} (a e it : Addr) (hat : a ≠ it) :
    Turn P w K (.Tuple elts kk tpos) (IteT K a) [e, it] e (fun i h => (∃ old, IsEnum h e it ((i : Nat) : Int) old) ∧ h.IsTupleIter it a i ∧ e ≠ it) where
  mem := by simp
  obj := fun i h st b hb => by
    obtain ⟨⟨old, he⟩, ⟨o, ho, hc, hd⟩, _⟩ := st
    have e' : b = e ∨ b = it := by simpa using hb
    rcases e' with z | z
    · rw [z]; exact ⟨_, he, fun v q => nomatch q⟩
    · rw [z]; exact ⟨o, ho, fun v q => by rw [hd] at q; cases q⟩
  keep := fun i h h' st k => let ⟨⟨old, he⟩, hi, hne⟩ := st; ⟨⟨old, k e (by simp) _ he⟩, hi.at fun o q => k it (by simp) o q, hne⟩
  item := by
    intro X hP hw hK hc i pins s σ H E I hf st hg
    subst hP hw hK
    obtain ⟨⟨old, he⟩, hit, hne⟩ := st
    obtain ⟨xs, x, hq, hx⟩ := hg
    obtain ⟨its, rv, p, hz⟩ := I.tuple hq
    obtain ⟨u, hu, ru⟩ := rv.get hx
    have hel : e < s.heap.objs.size := Heap.lt_size he
    have hil : it < s.heap.objs.size := by obtain ⟨_, q, _⟩ := hit; exact Heap.lt_size q
    have hhd : X.A.handled = none := I.ok.hd hc
    have hie : e ∉ [it, a] := fun z => by
      rcases List.mem_cons.mp z with z | z
      · exact hne z
      · have z' := List.mem_singleton.mp z
        obtain ⟨o, ho, hcl, _⟩ := p
        rw [← z', he] at ho
        cases ho
        exact absurd hcl (by simp)
    refine wpAny_pyNext_enum_itemD (Draws.tuple (prog := X.prog) (w := X.w) (A := X.A.in1) hhd it a hat its.toArray) he ⟨hit, p⟩ (i := i) (by
      have := (List.getElem?_eq_some_iff.mp hx).1
      have hl := rv.length
      simp only [List.size_toArray]
      omega) hne hie fun x' h' tk hx' ho hst' hT hsz hk => ?_
    have hxu : x' = u := by
      have e1 : its.toArray[i]? = some x' := hx'
      rw [show its.toArray[i]? = some u by simpa using hu] at e1
      exact (Option.some.inj e1).symm
    subst hxu
    refine ⟨_, rfl, wpAny_letOwnedTupleGo_enum (s := { s with heap := h', toks := tk + 1 }) ho fun h'' he' sb => ?_⟩
    have hT2 : h''.get? s.heap.objs.size = some { cls := .type "tuple", data := .seq #[.int i tk, x'] } := (sb.2 _ (Nat.ne_of_gt hel)).trans hT
    have new : ObjOk X.prog X.w (upd H s.heap.objs.size (.tup [.int (i : Nat), x])) h'' s.heap.objs.size (.tup [.int (i : Nat), x]) :=
      ⟨by show 2 ≤ sizeLine; decide, [.int i tk, x'], .cons ⟨_, rfl⟩ (.cons ru .nil), ⟨_, hT2, rfl, _, rfl⟩⟩
    have I1 : Inv X pins σ (upd H s.heap.objs.size (.tup [.int (i : Nat), x])) { s with heap := h'', toks := tk + 1 } :=
      I.turnedNew (ch := [e, it]) (fun b ob hb q => (sb.2 b (fun z => hb (by simp [z]))).trans (hk b ob (fun z => hb (by simp [z])) (fun z => hb (by simp [z])) q)) hf (Nat.le_refl _) new
    refine ⟨.ref s.heap.objs.size, _, I1, rfl, ⟨_, x, rfl, I.hok.fresh (Nat.le_refl _), rfl, fun ys hy => by rw [I.tuple_inj hy hq]; exact hx⟩, ⟨⟨x', ?_⟩, hst'.1.at fun o q => (sb.2 it (Ne.symm hne)).trans q, hne⟩, fun b hb => ?_⟩
    · have e1 : ((i + 1 : Nat) : Int) = (i : Int) + 1 := by omega
      rw [e1]; exact he'
    · have hb' : b < s.heap.objs.size := by
        have e' : b = e ∨ b = it := by simpa using hb
        rcases e' with z | z
        · rw [z]; exact hel
        · rw [z]; exact hil
      rw [upd_ne (Nat.ne_of_lt hb')]
      exact (hf b hb).1
  done := by
    intro X hP hw hK hc i pins s σ H E I hf st hg
    subst hP hw hK
    obtain ⟨⟨old, he⟩, hit, hne⟩ := st
    obtain ⟨xs, hq, hx⟩ := hg
    obtain ⟨its, rv, p, hz⟩ := I.tuple hq
    obtain ⟨f0, f1, f2, f3, f4, f5⟩ := hf it (by simp)
    have hl := rv.length
    have hhd : X.A.handled = none := I.ok.hd hc
    obtain ⟨o, ho, hcl, hd⟩ := hit
    have fin : ∀ h', Heap.ExtBut it s.heap h' → (none : Option Value) = none ∧ Inv X pins σ H { s with heap := h' } := fun h' eb => ⟨rfl, I.turned (t' := s.toks) (fun b o hb q => eb b o hb q) f0 f1 f3 f4 f5⟩
    have D := Draws.tuple (prog := X.prog) (w := X.w) (A := X.A.in1) hhd it a hat its.toArray
    have hi : i = its.toArray.size := by simp only [List.size_toArray]; omega
    subst hi
    exact wpAny_pyNext_enum_endD D he ⟨⟨o, ho, hcl, hd⟩, p⟩ fin
  self := fun A i s Q E st h => let ⟨⟨_, he⟩, _⟩ := st; wpAny_pyIter_enum he h

def iEnumT (K : PySem.W.Frag) (ta : TA) : TI := fun σ H R => ta σ H fun vs H1 => ∃ a xs, vs = [.ref a] ∧ SqT K H1 a xs ∧ R (IteT K a) H1
theorem pi_enumT {X : Cx} {e : Expr} {ta : TA} {p pos tpos : Pos} {elts : List Expr} {kk : Nat} (hg : Gl X "enumerate") (hm : X.mg "enumerate" = none) (ha : PA X [e] ta) (hs : starEach [e] X.env = [(false, eval e X.env)] := by rfl) :
    PI X (.Tuple elts kk tpos) (.Call (.Name "enumerate" p) [e] [] pos) (iEnumT X.K ta) := by
  refine ⟨fun pins s σ H R I h => ?_⟩
  refine Call_ (ld_blt I hg hm boot_enumerate (PyProof.Rows.callWith_type1 (thn (ha.run pos pins s σ H _ I h) fun us s1 ⟨vs, H1, I1, r1, q1⟩ => ?_) hs rfl))
  obtain ⟨a, xs, ex, hq, q⟩ := q1
  subst ex
  cases r1 with
  | cons r rr =>
    cases rr
    cases r
    obtain ⟨its, rv, p', hz⟩ := I1.tuple hq
    have hlt : a < s1.heap.objs.size := by obtain ⟨_, e, _⟩ := p'; exact Heap.lt_size e
    refine enum_begins1 (begins_tuple a its.toArray) p' fun h' he hit hsz hk => wpAny_pyIter_enum he ?_
    have I2 : Inv X pins σ H1 { s1 with heap := h' } := I1.kept (t' := s1.toks) hk
    refine ⟨s1.heap.objs.size + 1, [s1.heap.objs.size + 1, s1.heap.objs.size], _, _, H1, rfl, I2, turn_enumT a (s1.heap.objs.size + 1) s1.heap.objs.size (Nat.ne_of_lt hlt), ⟨⟨.none, he⟩, ⟨_, hit, rfl, rfl⟩, Nat.succ_ne_self _⟩, fun b hb => ?_, q⟩
    have e' : b = s1.heap.objs.size + 1 ∨ b = s1.heap.objs.size := by simpa using hb
    have hle : s1.heap.objs.size ≤ b := by
      rcases e' with z | z
      · rw [z]; exact Nat.le_add_right _ _
      · rw [z]; exact Nat.le_refl _
    exact I1.fpOk hle (I1.hok.fresh hle)

/-- (.. for i, x in enumerate(a tuple)) -/
def tEnums (K : PySem.W.Frag) (ta : TA) : TS2 := fun σ H R => ta σ H fun vs H1 => ∃ a xs, vs = [.ref a] ∧ SqT K H1 a xs ∧ R (xs.zipIdx.map fun p => (V.int (p.2 : Nat), p.1)) H1
theorem gs_enum {X : Cx} {e : Expr} {ta : TA} {p pos : Pos} (hg : Gl X "enumerate") (hm : X.mg "enumerate" = none) (ha : PA X [e] ta) (hs : starEach [e] X.env = [(false, eval e X.env)] := by rfl) :
    GS2 X (.Call (.Name "enumerate" p) [e] [] pos) (tEnums X.K ta) := by
  refine ⟨fun pins s σ H R I h => ?_⟩
  refine Call_ (ld_blt I hg hm boot_enumerate (PyProof.Rows.callWith_type1 (thn (ha.run pos pins s σ H _ I h) fun us s1 ⟨vs, H1, I1, r1, q1⟩ => ?_) hs rfl))
  obtain ⟨a, xs, ex, hq, q⟩ := q1
  subst ex
  cases r1 with
  | cons r rr =>
    cases rr
    cases r
    obtain ⟨its, rv, p', hz⟩ := I1.tuple hq
    obtain ⟨oa, hoa, hca, _⟩ := id p'
    have hlt : a < s1.heap.objs.size := Heap.lt_size hoa
    have hl := rv.length
    refine enum_begins1 (begins_tuple a its.toArray) p' fun h' he hit hsz hk => wpAny_pyIter_enum he ?_
    refine ⟨s1, H1, _, I1, q, ⟨h', s1.toks, rfl, hk, by rw [hsz]; exact Nat.le_add_right _ _⟩, s1.heap.objs.size + 1, (s1.heap.objs.size + 1) :: [s1.heap.objs.size, a], [s1.heap.objs.size + 1, s1.heap.objs.size],
      (fun i h => (∃ old, IsEnum h (s1.heap.objs.size + 1) s1.heap.objs.size (i : Int) old) ∧ h.IsTupleIter s1.heap.objs.size a i ∧ h.IsTuple a its.toArray),
      (fun i T h => (∃ x, IsEnumOut h (s1.heap.objs.size + 1) s1.heap.objs.size ((i : Int) + 1) x T) ∧ (h.IsTupleIter s1.heap.objs.size a (i + 1) ∧ h.IsTuple a its.toArray) ∧ T ≠ s1.heap.objs.size + 1 ∧ T ≠ s1.heap.objs.size), rfl, fun A' hA => ?_, ⟨⟨.none, he⟩, ⟨_, hit, rfl, rfl⟩, Heap.IsTuple.at p' fun o e => hk _ o e⟩, fun b hb => ?_, fun b hb => ?_⟩
    · have W := (WalksT.enumerateD (Draws.tuple (prog := X.prog) (w := X.w) (A := A'.in1) hA s1.heap.objs.size a (Nat.ne_of_lt hlt) its.toArray) (s1.heap.objs.size + 1) (Nat.succ_ne_self _) (fun z => by
          rcases List.mem_cons.mp z with z | z
          · exact Nat.succ_ne_self _ z
          · have z' := List.mem_singleton.mp z
            exact Nat.lt_irrefl _ (Nat.lt_trans (Nat.lt_succ_self _) (z' ▸ hlt))) List.mem_cons_self).toU
      have e : its.toArray.size = (xs.zipIdx.map fun p => ((V.int (p.2 : Nat), p.1) : V × V)).length := by simp [hl]
      rw [← e]
      exact { W with item := fun i s Q E hi st hQ => W.item i s Q E hi st fun T vs' h' tk hvv => hQ T vs' h' tk (by
          obtain ⟨t, x, hx, rfl⟩ := hvv
          have hi' : i < xs.length := by
            have := hi
            simp only [List.size_toArray] at this
            omega
          obtain ⟨u, hu, ru⟩ := Vals.get rv (List.getElem?_eq_getElem hi')
          have e2 : its[i]? = some x := by simpa using hx
          rw [hu] at e2
          cases e2
          exact ⟨_, _, V.int (i : Nat), xs[i], rfl, by simp [hi'], ⟨t, rfl⟩, ru⟩) }
    · rcases List.mem_cons.mp hb with z | z
      · exact ⟨_, by rw [z]; exact he, by simp⟩
      · rcases List.mem_cons.mp z with z | z
        · exact ⟨_, by rw [z]; exact hit, by simp⟩
        · rw [List.mem_singleton.mp z]
          exact ⟨oa, hk _ _ hoa, by rw [hca]; simp⟩
    · rcases List.mem_cons.mp hb with z | z
      · rw [z]; exact Nat.le_add_right _ _
      · rw [List.mem_singleton.mp z]; exact Nat.le_refl _
/-- (.. for x in range(n)) -/
def tRng1 (ta : TA) : TS1 := fun σ H R => ta σ H fun vs H1 => ∃ n : Nat, vs = [.int (n : Int)] ∧ n < 2 ^ 62 ∧ R ((List.range n).map fun j : Nat => V.int (j : Int)) H1
theorem gs_range1 {X : Cx} {e : Expr} {ta : TA} {p pos : Pos} (hg : Gl X "range") (hm : X.mg "range" = none) (ha : PA X [e] ta) (hs : starEach [e] X.env = [(false, eval e X.env)] := by rfl) :
    GS1 X (.Call (.Name "range" p) [e] [] pos) (tRng1 ta) := by
  refine ⟨fun pins s σ H R I h => ?_⟩
  refine Call_ (ld_blt I hg hm boot_range (PyProof.Rows.callWith_type1 (thn (ha.run pos pins s σ H _ I h) fun us s1 ⟨vs, H1, I1, r1, q1⟩ => ?_) hs rfl))
  obtain ⟨n, ex, hn, q⟩ := q1
  subst ex
  cases r1 with
  | cons r rr =>
    cases rr
    obtain ⟨t, rfl⟩ := r
    refine call_range_1 ?_
    refine wpAny_pyIter_range (IsRange.new ..) (small_one (by decide) (by decide) (by omega) (by omega)) ?_
    have I1 : Inv X pins σ H1 { s1 with heap := s1.heap.push { cls := .type "range", data := .fields #[.int 0 s1.toks, .int (n : Int) t, .int 1 (s1.toks + 1)] }, toks := s1.toks + 1 + 1 } := I1.kept fun b o e => Heap.get?_push_of_some _ e
    show ∃ s0, _
    generalize hg : ({ s1 with heap := s1.heap.push { cls := .type "range", data := .fields #[.int 0 s1.toks, .int (n : Int) t, .int 1 (s1.toks + 1)] }, toks := s1.toks + 1 + 1 } : Shared) = sg at I1 ⊢
    refine ⟨sg, H1, _, I1, q, grew_push, sg.heap.objs.size, [sg.heap.objs.size], [sg.heap.objs.size], (fun i h => IsRangeIter h sg.heap.objs.size (0 + (i : Nat) * 1) ((n : Int) - (i : Nat)) 1), rfl, fun A' hA => ?_, ?_, fun b hb => ?_, fun b hb => by rw [List.mem_singleton.mp hb]; exact Nat.le_refl _⟩
    · have W := Walks.range (prog := X.prog) (w := X.w) hA sg.heap.objs.size 0 1 n
      have e : n = ((List.range n).map fun j : Nat => V.int (j : Int)).length := by simp
      rw [← e]
      exact { W with item := fun i s Q E hi st hQ => W.item i s Q E hi st fun v h' tk hv => hQ v h' tk (by
          obtain ⟨t', rfl⟩ := hv
          exact ⟨V.int (i : Int), by simp [hi], ⟨t', by simp⟩⟩) }
    · have e2 : ((n : Int)) - ((0 : Nat) : Int) = Builtin.Range.rangeSize 0 n 1 := by rw [rangeSize_one]; split <;> omega
      show IsRangeIter _ _ (0 + ((0 : Nat) : Int) * 1) _ 1
      rw [e2]
      exact Heap.get?_push_size _ rfl
    · rw [List.mem_singleton.mp hb]
      exact ⟨_, Heap.get?_push_size _ rfl, by simp⟩
end G9
set_option Elab.async false
set_option linter.all false
set_option maxRecDepth 100000
set_option maxHeartbeats 2000000
namespace G9
open PySem PySem.Spec PyProof.Rows L2 GxR
section
variable {X : Cx}
/-- what a generator gives: the reading's ends -/
def tGen1 (P : Addr) (t : TS1) (tt : GB) (te : GV) (R : L2.St → List V → Hp → VK → Prop) : TE := fun σ H Q => t σ H fun vs H1 => TabG H1 P ∧ ∃ (pz : V → Bool) (F : V → V), (∀ x ∈ vs, tt [x] σ H1 (pz x)) ∧ (∀ x ∈ vs, pz x = true → te [x] σ H1 (F x)) ∧ R σ ((vs.filter pz).map F) H1 Q
def tGen1i (P : Addr) (t : TS1) (tt : GB) (te : GV) (R : L2.St → List V → Hp → VK → Prop) : TE := fun σ H Q => t σ H fun vs H1 => TabG H1 P ∧ ∃ (pz : Nat → Bool) (F : Nat → V), (∀ i x, vs[i]? = some x → tt [x] σ H1 (pz i)) ∧ (∀ i x, vs[i]? = some x → pz i = true → te [x] σ H1 (F i)) ∧ R σ (((List.range vs.length).filter pz).map F) H1 Q
def tGen2 (P : Addr) (t : TS2) (tt : GB) (te : GV) (R : L2.St → List V → Hp → VK → Prop) : TE := fun σ H Q => t σ H fun vs H1 => TabG H1 P ∧ ∃ (pz : V × V → Bool) (F : V × V → V), (∀ x ∈ vs, tt [x.1, x.2] σ H1 (pz x)) ∧ (∀ x ∈ vs, pz x = true → te [x.1, x.2] σ H1 (F x)) ∧ R σ ((vs.filter pz).map F) H1 Q
/-- a call f(g) of a generator: what it makes of what comes -/
def Eats (X : Cx) (f : Value) (R : Addr → L2.St → List V → Hp → VK → Prop) : Prop := ∀ (pins : List (Addr × Obj)) (σ : L2.St) (H1 : Hp) (P : Addr) (L : List V) (g : Addr) (s5 : Shared) (Q : VK),
  Ready X pins σ H1 P L g s5 → R P σ L H1 Q → wpAny (model X.prog X.w) X.A (call f [.ref g]) (EP X pins σ Q) X.xe s5
/-- tuple(g) -/
def rTup (P : Addr) : L2.St → List V → Hp → VK → Prop := fun _ L H1 Q => L.length ≤ sizeLine ∧ ∀ H2 l, Tabbed P H1 H2 → H2 l = none → Q (.ref l) (upd H2 l (.tup L))
theorem vals_of_get : ∀ {xs : List V} {us : List Value}, us.length = xs.length → (∀ (j : Nat) (u : Value), us[j]? = some u → ∃ x, xs[j]? = some x ∧ RelV x u) → Vals xs us
  | [], [], _, _ => .nil
  | x :: xs, u :: us, h, k => by
    obtain ⟨x', e, r⟩ := k 0 u rfl
    cases e
    exact .cons r (vals_of_get (by simpa using h) fun j u e => k (j + 1) u e)
theorem eat_tuple : Eats X (.type "tuple") rTup := by
  intro pins σ H1 P L g s5 Q hR q
  obtain ⟨hz, q⟩ := q
  obtain ⟨fp, wr, G, Fi, St, W, hst, hF, hT, hfp, hg, hI⟩ := hR
  refine call_tuple_gen (hsz := hz) W.in4_3 hT hst hfp hg fun s' acc hm hacc => ?_
  obtain ⟨H2, hTb, J⟩ := hI s' hm
  have rv : Vals L acc.toList := vals_of_get (by simp [hacc.1]) fun j u e => hF j u (hacc.2 j u (by simpa using e))
  have J2 : Inv X pins σ (upd H2 s'.heap.objs.size (.tup L)) { s' with heap := s'.heap.push { cls := .type "tuple", data := .seq acc } } :=
    J.laid (t' := s'.toks) (fun b o e => Heap.get?_push_of_some _ e) (Nat.le_refl _) ⟨hz, acc.toList, rv, by simpa using IsTup.new s'.heap acc⟩
  exact ⟨.ref s'.heap.objs.size, _, J2, rfl, q H2 _ hTb (J.hok.fresh (Nat.le_refl _))⟩
/-- any(g), all(g) of truths -/
def rAnyG (P : Addr) : L2.St → List V → Hp → VK → Prop := fun _ L H1 Q => ∃ bs : List Bool, L = bs.map V.bl ∧ ∀ H2, Tabbed P H1 H2 → Q (.bl (bs.any id)) H2
def rAllG (P : Addr) : L2.St → List V → Hp → VK → Prop := fun _ L H1 Q => ∃ bs : List Bool, L = bs.map V.bl ∧ ∀ H2, Tabbed P H1 H2 → Q (.bl (bs.all id)) H2
theorem truth_of {Fi : Nat → Value → Prop} {bs : List Bool} {A : Around} (hF : ∀ j y, Fi j y → ∃ x, (bs.map V.bl)[j]? = some x ∧ RelV x y) : TruthOf X.prog X.w A Fi (fun j => bs.getD j false) := by
  intro j v s Q E hv hQ
  obtain ⟨x, hx, r⟩ := hF j v hv
  rw [List.getElem?_map] at hx
  cases e : bs[j]? with
  | none => rw [e] at hx; cases hx
  | some b =>
    rw [e] at hx
    cases hx
    cases r
    have hQ2 : Q (bs.getD j false) s := hQ
    rw [List.getD_eq_getElem?_getD, e] at hQ2
    exact wpAny_truthy_bool hQ2
theorem any_getD (bs : List Bool) : (List.range bs.length).any (fun j => bs.getD j false) = bs.any id := by
  rw [Bool.eq_iff_iff, List.any_eq_true, List.any_eq_true]
  constructor
  · intro ⟨j, hj, h⟩
    have hj' := List.mem_range.mp hj
    rw [List.getD_eq_getElem?_getD, List.getElem?_eq_getElem hj'] at h
    exact ⟨bs[j], List.getElem_mem hj', h⟩
  · intro ⟨b, hb, h⟩
    obtain ⟨j, hj, e⟩ := List.getElem_of_mem hb
    refine ⟨j, List.mem_range.mpr hj, ?_⟩
    rw [List.getD_eq_getElem?_getD, List.getElem?_eq_getElem hj, e]
    exact h
theorem all_getD (bs : List Bool) : (List.range bs.length).all (fun j => bs.getD j false) = bs.all id := by
  rw [Bool.eq_iff_iff, List.all_eq_true, List.all_eq_true]
  constructor
  · intro h b hb
    obtain ⟨j, hj, e⟩ := List.getElem_of_mem hb
    have q := h j (List.mem_range.mpr hj)
    rw [List.getD_eq_getElem?_getD, List.getElem?_eq_getElem hj, e] at q
    exact q
  · intro h j hj
    have hj' := List.mem_range.mp hj
    rw [List.getD_eq_getElem?_getD, List.getElem?_eq_getElem hj']
    exact h _ (List.getElem_mem hj')
theorem eat_any : Eats X (.builtin "any") rAnyG := by
  intro pins σ H1 P L g s5 Q hR q
  obtain ⟨bs, rfl, q⟩ := q
  obtain ⟨fp, wr, G, Fi, St, W, hst, hF, hT, hfp, hg, hI⟩ := hR
  refine call_any_walkS (W.in4_1.self 0 _ _ _ hst ⟨g, fp, wr, G, _, Fi, St, _, rfl, W.in4_1, hst, truth_of hF, fun s' hmv => ?_⟩)
  obtain ⟨H2, hTb, J⟩ := hI s' hmv
  refine ⟨.bl _, H2, J, rfl, ?_⟩
  rw [List.length_map, any_getD]
  exact q H2 hTb
theorem eat_all : Eats X (.builtin "all") rAllG := by
  intro pins σ H1 P L g s5 Q hR q
  obtain ⟨bs, rfl, q⟩ := q
  obtain ⟨fp, wr, G, Fi, St, W, hst, hF, hT, hfp, hg, hI⟩ := hR
  refine call_all_walkS (W.in4_1.self 0 _ _ _ hst ⟨g, fp, wr, G, _, Fi, St, _, rfl, W.in4_1, hst, truth_of hF, fun s' hmv => ?_⟩)
  obtain ⟨H2, hTb, J⟩ := hI s' hmv
  refine ⟨.bl _, H2, J, rfl, ?_⟩
  rw [List.length_map, all_getD]
  exact q H2 hTb

variable {c P : Addr} {elt iter : Expr} {ifs : List Expr} {x xa xb : Str} {px pa pb pt p pos gpos : Pos} {kt : Nat} {scope : Scope} {t1 : TS1} {t2 : TS2} {tt : GB} {te : GV} {k : Nat} {f : Str} {R : Addr → L2.St → List V → Hp → VK → Prop}
/-- f(.. for x in ..), f a built-in class -/
theorem pe_g1T {T : String} (E : Eats X (.type T) R) (hr : Room k X.A) (hg : Gl X f) (hm : X.mg f = none) (hb : bootBuiltins f = some (.type T)) (TB : TabB X.base X.mg c P) (hcode : X.env.code = .ref c) (S : GenN X.env.scope scope [x]) (hi : GS1 X iter t1) (hts : GTs X P scope [x] ifs tt) (hel : GE X P scope [x] elt te)
    (hs : ∀ v, genFold iter X.env v = pure v := by intro _; rfl) (hn : f ≠ "__name__" := by decide +kernel) (hd : (f == ("__debug__" : Str)) = false := by decide +kernel)
    (he : starEach [.GeneratorExp elt [⟨.Name x px, iter, ifs, 0⟩] scope gpos] X.env = (false, eval (.GeneratorExp elt [⟨.Name x px, iter, ifs, 0⟩] scope gpos) X.env) :: starEach [] X.env := by rfl) :
    PE X (.Call (.Name f p) [.GeneratorExp elt [⟨.Name x px, iter, ifs, 0⟩] scope gpos] [] pos) (tGen1 P t1 tt te (R P)) := by
  refine ⟨fun pins s σ H Q I h => ?_⟩
  refine Call_ (ld_blt (hn := hn) (hd := hd) I hg hm hb (PyProof.Rows.callWith_type1 ?_ he (by rfl)))
  rw [he]
  show wpAny _ _ (spliced ((false, eval (.GeneratorExp elt [⟨.Name x px, iter, ifs, 0⟩] scope gpos) X.env) :: backTo pos (starEach [] X.env))) _ _ s
  refine Calls.spliced_cons (gen1 (R := fun L H1 => R P σ L H1 Q) hr TB hcode S hi hts hel hs I h fun L H1 g s5 hR hG => Calls.spliced_nil (E pins σ H1 P L g s5 Q hG hR))
theorem pe_g1Ti {T : String} (E : Eats X (.type T) R) (hr : Room k X.A) (hg : Gl X f) (hm : X.mg f = none) (hb : bootBuiltins f = some (.type T)) (TB : TabB X.base X.mg c P) (hcode : X.env.code = .ref c) (S : GenN X.env.scope scope [x]) (hi : GS1 X iter t1) (hts : GTs X P scope [x] ifs tt) (hel : GE X P scope [x] elt te)
    (hs : ∀ v, genFold iter X.env v = pure v := by intro _; rfl) (hn : f ≠ "__name__" := by decide +kernel) (hd : (f == ("__debug__" : Str)) = false := by decide +kernel)
    (he : starEach [.GeneratorExp elt [⟨.Name x px, iter, ifs, 0⟩] scope gpos] X.env = (false, eval (.GeneratorExp elt [⟨.Name x px, iter, ifs, 0⟩] scope gpos) X.env) :: starEach [] X.env := by rfl) :
    PE X (.Call (.Name f p) [.GeneratorExp elt [⟨.Name x px, iter, ifs, 0⟩] scope gpos] [] pos) (tGen1i P t1 tt te (R P)) := by
  refine ⟨fun pins s σ H Q I h => ?_⟩
  refine Call_ (ld_blt (hn := hn) (hd := hd) I hg hm hb (PyProof.Rows.callWith_type1 ?_ he (by rfl)))
  rw [he]
  show wpAny _ _ (spliced ((false, eval (.GeneratorExp elt [⟨.Name x px, iter, ifs, 0⟩] scope gpos) X.env) :: backTo pos (starEach [] X.env))) _ _ s
  refine Calls.spliced_cons (gen1i (R := fun L H1 => R P σ L H1 Q) hr TB hcode S hi hts hel hs I h fun L H1 g s5 hR hG => Calls.spliced_nil (E pins σ H1 P L g s5 Q hG hR))
theorem pe_g2T {T : String} (E : Eats X (.type T) R) (hr : Room k X.A) (hg : Gl X f) (hm : X.mg f = none) (hb : bootBuiltins f = some (.type T)) (TB : TabB X.base X.mg c P) (hcode : X.env.code = .ref c) (S : GenN X.env.scope scope [xa, xb]) (hi : GS2 X iter t2) (hts : GTs X P scope [xa, xb] ifs tt) (hel : GE X P scope [xa, xb] elt te) (hab : xa ≠ xb)
    (hs : ∀ v, genFold iter X.env v = pure v := by intro _; rfl) (hn : f ≠ "__name__" := by decide +kernel) (hd : (f == ("__debug__" : Str)) = false := by decide +kernel)
    (he : starEach [.GeneratorExp elt [⟨.Tuple [.Name xa pa, .Name xb pb] kt pt, iter, ifs, 0⟩] scope gpos] X.env = (false, eval (.GeneratorExp elt [⟨.Tuple [.Name xa pa, .Name xb pb] kt pt, iter, ifs, 0⟩] scope gpos) X.env) :: starEach [] X.env := by rfl) :
    PE X (.Call (.Name f p) [.GeneratorExp elt [⟨.Tuple [.Name xa pa, .Name xb pb] kt pt, iter, ifs, 0⟩] scope gpos] [] pos) (tGen2 P t2 tt te (R P)) := by
  refine ⟨fun pins s σ H Q I h => ?_⟩
  refine Call_ (ld_blt (hn := hn) (hd := hd) I hg hm hb (PyProof.Rows.callWith_type1 ?_ he (by rfl)))
  rw [he]
  show wpAny _ _ (spliced ((false, eval (.GeneratorExp elt [⟨.Tuple [.Name xa pa, .Name xb pb] kt pt, iter, ifs, 0⟩] scope gpos) X.env) :: backTo pos (starEach [] X.env))) _ _ s
  refine Calls.spliced_cons (gen2 (R := fun L H1 => R P σ L H1 Q) hr TB hcode S hi hts hel hab hs I h fun L H1 g s5 hR hG => Calls.spliced_nil (E pins σ H1 P L g s5 Q hG hR))
/-- f a built-in function -/
theorem pe_g1B {T : String} (E : Eats X (.builtin T) R) (hr : Room k X.A) (hg : Gl X f) (hm : X.mg f = none) (hb : bootBuiltins f = some (.builtin T)) (TB : TabB X.base X.mg c P) (hcode : X.env.code = .ref c) (S : GenN X.env.scope scope [x]) (hi : GS1 X iter t1) (hts : GTs X P scope [x] ifs tt) (hel : GE X P scope [x] elt te)
    (hs : ∀ v, genFold iter X.env v = pure v := by intro _; rfl) (hn : f ≠ "__name__" := by decide +kernel) (hd : (f == ("__debug__" : Str)) = false := by decide +kernel)
    (he : starEach [.GeneratorExp elt [⟨.Name x px, iter, ifs, 0⟩] scope gpos] X.env = (false, eval (.GeneratorExp elt [⟨.Name x px, iter, ifs, 0⟩] scope gpos) X.env) :: starEach [] X.env := by rfl) :
    PE X (.Call (.Name f p) [.GeneratorExp elt [⟨.Name x px, iter, ifs, 0⟩] scope gpos] [] pos) (tGen1 P t1 tt te (R P)) := by
  refine ⟨fun pins s σ H Q I h => ?_⟩
  refine Call_ (ld_blt (hn := hn) (hd := hd) I hg hm hb (PyProof.Rows.callWith_builtin1 ?_ he (by rfl)))
  rw [he]
  show wpAny _ _ (spliced ((false, eval (.GeneratorExp elt [⟨.Name x px, iter, ifs, 0⟩] scope gpos) X.env) :: backTo pos (starEach [] X.env))) _ _ s
  refine Calls.spliced_cons (gen1 (R := fun L H1 => R P σ L H1 Q) hr TB hcode S hi hts hel hs I h fun L H1 g s5 hR hG => Calls.spliced_nil (E pins σ H1 P L g s5 Q hG hR))
theorem pe_g1Bi {T : String} (E : Eats X (.builtin T) R) (hr : Room k X.A) (hg : Gl X f) (hm : X.mg f = none) (hb : bootBuiltins f = some (.builtin T)) (TB : TabB X.base X.mg c P) (hcode : X.env.code = .ref c) (S : GenN X.env.scope scope [x]) (hi : GS1 X iter t1) (hts : GTs X P scope [x] ifs tt) (hel : GE X P scope [x] elt te)
    (hs : ∀ v, genFold iter X.env v = pure v := by intro _; rfl) (hn : f ≠ "__name__" := by decide +kernel) (hd : (f == ("__debug__" : Str)) = false := by decide +kernel)
    (he : starEach [.GeneratorExp elt [⟨.Name x px, iter, ifs, 0⟩] scope gpos] X.env = (false, eval (.GeneratorExp elt [⟨.Name x px, iter, ifs, 0⟩] scope gpos) X.env) :: starEach [] X.env := by rfl) :
    PE X (.Call (.Name f p) [.GeneratorExp elt [⟨.Name x px, iter, ifs, 0⟩] scope gpos] [] pos) (tGen1i P t1 tt te (R P)) := by
  refine ⟨fun pins s σ H Q I h => ?_⟩
  refine Call_ (ld_blt (hn := hn) (hd := hd) I hg hm hb (PyProof.Rows.callWith_builtin1 ?_ he (by rfl)))
  rw [he]
  show wpAny _ _ (spliced ((false, eval (.GeneratorExp elt [⟨.Name x px, iter, ifs, 0⟩] scope gpos) X.env) :: backTo pos (starEach [] X.env))) _ _ s
  refine Calls.spliced_cons (gen1i (R := fun L H1 => R P σ L H1 Q) hr TB hcode S hi hts hel hs I h fun L H1 g s5 hR hG => Calls.spliced_nil (E pins σ H1 P L g s5 Q hG hR))
theorem pe_g2B {T : String} (E : Eats X (.builtin T) R) (hr : Room k X.A) (hg : Gl X f) (hm : X.mg f = none) (hb : bootBuiltins f = some (.builtin T)) (TB : TabB X.base X.mg c P) (hcode : X.env.code = .ref c) (S : GenN X.env.scope scope [xa, xb]) (hi : GS2 X iter t2) (hts : GTs X P scope [xa, xb] ifs tt) (hel : GE X P scope [xa, xb] elt te) (hab : xa ≠ xb)
    (hs : ∀ v, genFold iter X.env v = pure v := by intro _; rfl) (hn : f ≠ "__name__" := by decide +kernel) (hd : (f == ("__debug__" : Str)) = false := by decide +kernel)
    (he : starEach [.GeneratorExp elt [⟨.Tuple [.Name xa pa, .Name xb pb] kt pt, iter, ifs, 0⟩] scope gpos] X.env = (false, eval (.GeneratorExp elt [⟨.Tuple [.Name xa pa, .Name xb pb] kt pt, iter, ifs, 0⟩] scope gpos) X.env) :: starEach [] X.env := by rfl) :
    PE X (.Call (.Name f p) [.GeneratorExp elt [⟨.Tuple [.Name xa pa, .Name xb pb] kt pt, iter, ifs, 0⟩] scope gpos] [] pos) (tGen2 P t2 tt te (R P)) := by
  refine ⟨fun pins s σ H Q I h => ?_⟩
  refine Call_ (ld_blt (hn := hn) (hd := hd) I hg hm hb (PyProof.Rows.callWith_builtin1 ?_ he (by rfl)))
  rw [he]
  show wpAny _ _ (spliced ((false, eval (.GeneratorExp elt [⟨.Tuple [.Name xa pa, .Name xb pb] kt pt, iter, ifs, 0⟩] scope gpos) X.env) :: backTo pos (starEach [] X.env))) _ _ s
  refine Calls.spliced_cons (gen2 (R := fun L H1 => R P σ L H1 Q) hr TB hcode S hi hts hel hab hs I h fun L H1 g s5 hR hG => Calls.spliced_nil (E pins σ H1 P L g s5 Q hG hR))
end
end G9
set_option Elab.async false
set_option linter.all false
set_option maxRecDepth 100000
set_option maxHeartbeats 2000000
namespace G9
open PySem PySem.Spec PyProof.Rows L2 GxR

/-! ### defs, called where no repr is under way -/
theorem guards_deeper (A : Around) (env : Env) : (A.deeper env).guards = A.guards := by
  obtain ⟨a, b, c, d, e⟩ := A
  first | rfl | simp [Around.deeper]

structure FnG (P : Program) (w : World) (K : PySem.W.Frag) (mg : Str → Option Value) (base : Heap) (k : Nat) (f : Addr) (fd : FuncData) (ps : List Str) (sp : Sp) : Prop where
  len : ∀ vs H Q E, sp vs H Q E → vs.length = ps.length
  run : ∀ (A : Around) (outer : List Env) (s : Shared) (H : Hp) (args : Args) (us : List Value) (vs : List V) (Q : VK), A.guards = some [] → Room k A → Env0 P w K mg base A outer s H → BindsTo s fd args (ps.zip us) → Vals vs us → sp vs H Q E0 →
    codeAny (model P w) A (.call (.ref f) args) (CR CX0 outer P w H s Q E0) s
theorem FnG.mono {P w K mg base j k f fd ps sp} (F : FnG P w K mg base j f fd ps sp) (h : j ≤ k) : FnG P w K mg base k f fd ps sp := ⟨F.len, fun A outer s H args us vs Q hg hr => F.run A outer s H args us vs Q hg (hr.mono h)⟩

/-- a def of the text, its code object at c -/
structure FunC (K : PySem.W.Frag) (x qual : Str) (st : Stmt) (f : Addr) (fd : FuncData) (c : Addr) : Prop where
  ex : ∃ (oc : Value) (od : Option Addr) (kV doc pm : Value) (an : Option Addr) (ct : Value) (osl : Array (Option Value)),
    fd = PySem.W.fnOf x qual (defArgs st) (defBody st) (defScope st) .none kV doc pm an (.ref c) ct ∧ K.lookup f = some ⟨oc, od, .func fd, osl⟩ ∧ PySem.W.codeIn K (.ref c) qual = true
  kp : PySem.W.keepIn K (.ref f) = true
section
variable {P : Program} {w : World} {K : PySem.W.Frag} {mg : Str → Option Value} {base : Heap}
theorem FunC.fn {x qual : Str} {st : Stmt} {f c : Addr} {fd : FuncData} (F : FunC K x qual st f fd c) : Fun K x qual st f fd := by
  obtain ⟨oc, od, kV, doc, pm, an, ct, osl, h1, h2, h3⟩ := F.ex
  exact ⟨⟨oc, od, kV, doc, pm, an, .ref c, ct, osl, h1, h2, h3⟩, F.kp⟩
/-- a def keeps its promise: by its body's term and that term's reading -/
theorem FunC.ok {x qual : Str} {st : Stmt} {f c : Addr} {fd : FuncData} {N ps : List Str} {k : Nat} {sp : Sp} (F : FunC K x qual st f fd c) (S : FnScope N ps (defScope st)) (len : ∀ vs H Q E, sp vs H Q E → vs.length = ps.length)
    (hbody : ∀ (A : Around) (outer : List Env) (s : Shared) (H : Hp) (vs : List V) (Q : VK), A.guards = some [] → Room k (A.deeper (envOfC qual (defScope st) s.heap.objs.size f (.ref c))) → sp vs H Q E0 →
      ∃ t, PSs (cxOf CX0 P w K mg base N qual (defScope st) f (.ref c) A outer s H E0).nox (defBody st) t ∧ t { nx := fun _ H' => Q .non H', rt := Q } (start N vs) H) : FnG P w K mg base (k + 1) f fd ps sp := by
  obtain ⟨oc, od, kV, doc, pm, an, ct, osl, rfl, lk, hcd⟩ := F.ex
  refine ⟨len, fun A outer s H args us vs Q hg hr e0 hb r hsp => ?_⟩
  have hl := len _ _ _ _ hsp
  have KX : K.In s.heap := e0.mod.kin.keeps fun b o e => (e0.bs b o e).1
  have lim : s.heap.NoLimit := e0.mod.nolimit.keeps fun b o e => (e0.bs b o e).1
  have hkind : ∀ y ∈ ps.zip us, (defScope st).names.lookup y.1 = some .local ∨ ((defScope st).names.lookup y.1 = some .cell ∧ ((cellsFrom (s.heap.objs.size + 1) (defScope st).names []).lookup y.1).isSome = true) := by
    rintro ⟨n, v⟩ hy
    exact (S.par n (List.of_mem_zip hy).1).imp id fun q => ⟨q, PySem.W.cellsFrom_some _ _ _ (.inl q)⟩
  refine codeAny_call_function hr.depth (KX _ _ lk) rfl S.co S.gen rfl (PySem.W.codeRec_of KX hcd) (hb _ _ _ _ ?_)
  refine wpAny_newFunctionEnv_cells S.kind hkind fun env he s1 x => ?_
  subst he
  refine ⟨lim.keeps x.toInCall.keep, codeAny_func ?_⟩
  obtain ⟨t, ht0, hq⟩ := hbody A outer s H vs Q hg (hr.deeper _) hsp
  have ht := ht0.nox
  have I := inv_start (CX := CX0) (P := P) (w := w) (mg := mg) (qual := qual) (f := f) (cd := .ref c) (E := E0) S hr.hd e0 hl r x
  refine wpAny_mono (ht.run [] s1 (start N vs) H _ I hq) (fun fl s' hs => ?_) fun e s' hs => hs
  cases fl with
  | ret u => obtain ⟨v, σ', H', J, rv, q⟩ := hs; exact ⟨v, H', J.os, J.bare, J.base, J.hok, rv, q⟩
  | next => obtain ⟨σ', H', J, q⟩ := hs; exact ⟨V.non, H', J.os, J.bare, J.base, J.hok, rfl, q⟩
  | brk => obtain ⟨_, _, _, q⟩ := hs; exact False.elim q
  | cont => obtain ⟨_, _, _, q⟩ := hs; exact False.elim q
end
section
variable {X : Cx} {k : Nat} {f : Addr} {fd : FuncData} {ps ks : List Str} {sp : Sp} {x : Str} {p pos : Pos} {e : Expr} {es : List Expr} {kws : List Keyword} {t tk : TA} {g : List Value → List Value → List Value} {gV : List V → List V → List V}
def tGo (sp : Sp) (t : TA) : TE := fun σ H Q => t σ H fun vs H1 => sp vs H1 Q E0
theorem end_ok {pins σ H s} {Q : VK} {r : Result} {s' : Shared} (I : Inv X pins σ H s) (h : CR CX0 X.stack X.prog X.w H s Q E0 r s') : wants (EP X pins σ Q) X.xe r s' := by
  cases r with
  | error e => exact False.elim h
  | ok fl =>
    cases fl with
    | ret u => exact I.after h
    | next => exact False.elim h
    | brk => exact False.elim h
    | cont => exact False.elim h
/-- f(e, ..) -/
theorem pg_call (F : FnG X.prog X.w X.K X.mg X.base k f fd ps sp) (hgu : X.A.guards = some []) (hr : Room k X.A) (hg : Gl X x) (hm : X.mg x = some (.ref f)) (hk : PySem.W.keepIn X.K (.ref f) = true) (hb : Binds X.K fd ps [])
    (ha : PA X (e :: es) t) (hdb : (x == ("__debug__" : Str)) = false := by decide +kernel) (he : starEach (e :: es) X.env = (false, eval e X.env) :: starEach es X.env := by rfl) (hpl : (backTo pos (starEach es X.env)).any (·.1) = false := by rfl) :
    PE X (.Call (.Name x p) (e :: es) [] pos) (tGo sp t) := by
  refine ⟨fun pins s σ H Q I h => ?_⟩
  refine wpAny_Call_Name_kw (ld_glob I hg hm ?_ hdb)
  refine PySem.W.callWith_K (h₀ := X.base) I.ok.mod.kin hk (thn (ha.run pos pins s σ H _ I h) fun us s1 ⟨vs, H1, I1, r, q⟩ => ⟨I1.kIn, ?_⟩) he hpl
  have q : sp vs H1 Q E0 := q
  have hl : (us ++ []).length = ps.length := by rw [List.append_nil, ← r.length]; exact F.len _ _ _ _ q
  exact wpAny_call (codeAny_mono (F.run X.A X.stack s1 H1 ⟨us, []⟩ (us ++ []) vs Q hgu hr I1.env0 (hb s1 us I1.kIn hl) (by rw [List.append_nil]; exact r) q) fun r' s' hq => end_ok I1 hq)
/-- f(k = e, ..), nothing by position -/
theorem pg_callK (F : FnG X.prog X.w X.K X.mg X.base k f fd ps sp) (hgu : X.A.guards = some []) (hr : Room k X.A) (hg : Gl X x) (hm : X.mg x = some (.ref f)) (hk : PySem.W.keepIn X.K (.ref f) = true) (hb : KBinds X.K fd ps ks g gV)
    (hkw : PK X kws tk) (hall : (backToKw pos (keywordEach kws X.env)).all (·.1.isSome) = true := by rfl) (hks : (backToKw pos (keywordEach kws X.env)).filterMap (·.1) = ks := by rfl) (hdb : (x == ("__debug__" : Str)) = false := by decide +kernel)
    (hpl : ((backTo pos (starEach [] X.env)).any (·.1) || (backToKw pos (keywordEach kws X.env)).any (·.1.isNone)) = false := by rfl) :
    PE X (.Call (.Name x p) [] kws pos) (tCallK sp gV E0 tNil tk) := by
  refine ⟨fun pins s σ H Q I h => ?_⟩
  refine wpAny_Call_Name_kw (ld_glob I hg hm ?_ hdb)
  have h' : tk σ H fun zs H2 => sp (gV [] zs) H2 Q E0 := h
  refine PySem.W.callWith_KW0 (h₀ := X.base) I.ok.mod.kin hk hall (thn (hkw.run pos pins s σ H _ I h') fun ws s2 ⟨zs, H2, I2, rz, q2⟩ => ⟨I2.kIn, ?_⟩) hpl
  rw [hks]
  have r2 : Vals (gV [] zs) (g [] ws) := hb.rel .nil rz
  have hl : (g [] ws).length = ps.length := by rw [← r2.length]; exact F.len _ _ _ _ q2
  exact wpAny_call (codeAny_mono (F.run X.A X.stack s2 H2 ⟨[], ks.zip ws⟩ (g [] ws) (gV [] zs) Q hgu hr I2.env0 (hb.to s2 [] ws I2.kIn hl) r2 q2) fun r' s' hq => end_ok I2 hq)
end

/-! ### what stays: all but the tables of code and, at the addresses of S, what may change -/
def Fix : HO → Prop
  | .tup _ => True
  | .frz _ _ => True
  | _ => False
def NoTbl (o : HO) : Prop := ∀ ps, o ≠ .tbl ps
def Ext (S : List Addr) (H H' : Hp) : Prop := (∀ b o, H b = some o → (b ∉ S ∨ Fix o) → NoTbl o → H' b = some o) ∧ ∀ P, TabG H P → TabG H' P
theorem Ext.refl {S : List Addr} (H : Hp) : Ext S H H := ⟨fun _ _ e _ _ => e, fun _ t => t⟩
theorem Ext.trans {S : List Addr} {H H1 H2 : Hp} (a : Ext S H H1) (b : Ext S H1 H2) : Ext S H H2 := ⟨fun c o e n m => b.1 c o (a.1 c o e n m) n m, fun P t => b.2 P (a.2 P t)⟩
theorem Ext.more {S T : List Addr} {H H1 : Hp} (a : Ext S H H1) (h : ∀ b ∈ S, b ∈ T) : Ext T H H1 := ⟨fun c o e n m => a.1 c o e (n.imp (fun z q => z (h c q)) id) m, a.2⟩
theorem Ext.any {T : List Addr} {H H1 : Hp} (a : Ext [] H H1) : Ext T H H1 := a.more fun _ z => by cases z
theorem Ext.new {S : List Addr} {H : Hp} {p : Addr} {o : HO} (h : H p = none) : Ext S H (upd H p o) :=
  ⟨fun b u e _ _ => by rw [upd_ne (ne_of_none e h)]; exact e, fun P ⟨ps, e, r⟩ => ⟨ps, by rw [upd_ne (ne_of_none e h)]; exact e, r⟩⟩
theorem Ext.put {S : List Addr} {H : Hp} {p : Addr} {o o' : HO} (h : H p = some o) (hn : NoTbl o) (hf : ¬ Fix o) (hp : p ∈ S) : Ext S H (upd H p o') := by
  refine ⟨fun b u e n _ => ?_, fun P ⟨ps, e, r⟩ => ⟨ps, ?_, r⟩⟩
  · have hb : b ≠ p := fun z => by
      rcases n with n | n
      · exact n (z ▸ hp)
      · rw [z, h] at e
        cases e
        exact hf n
    rw [upd_ne hb]
    exact e
  · have hb : P ≠ p := fun z => by
      rw [z, h] at e
      cases e
      exact hn ps rfl
    rw [upd_ne hb]
    exact e
theorem Ext.tabbed {S : List Addr} {H H' : Hp} {P : Addr} (T : TabG H P) (t : Tabbed P H H') : Ext S H H' := by
  refine ⟨fun b o e _ n => ?_, fun Q ⟨ps, e, r⟩ => ?_⟩
  · have hb : b ≠ P := fun z => by
      obtain ⟨ps, hP, _⟩ := T
      rw [z, hP] at e
      cases e
      exact n ps rfl
    rw [t.2 b hb]
    exact e
  · by_cases z : Q = P
    · rw [z]; exact t.1
    · exact ⟨ps, by rw [t.2 Q z]; exact e, r⟩
theorem Ext.free {S : List Addr} {H H' : Hp} (x : Ext S H H') {p : Addr} (h : H' p = none) : ∀ b o, H b = some o → (b ∉ S ∨ Fix o) → NoTbl o → b ≠ p := fun b o e n m z => by
  rw [z] at e
  have q := x.1 p o e (z ▸ n) m
  rw [h] at q
  cases q
section
variable {K : PySem.W.Frag} {S : List Addr} {H H' : Hp} {a : Addr} {xs : List V}
theorem Ext.tup (x : Ext S H H') (h : SqT K H a xs) : SqT K H' a xs := by
  rcases h with (h | ⟨o, h⟩) | h
  · exact .inl (.inl (x.1 _ _ h (.inr trivial) (fun _ z => by cases z)))
  · exact .inl (.inr ⟨o, x.1 _ _ h (.inr trivial) (fun _ z => by cases z)⟩)
  · exact .inr h
theorem Ext.lst (x : Ext S H H') (ha : a ∉ S) (h : SqL K H a xs) : SqL K H' a xs := by
  rcases h with (h | ⟨o, h⟩) | h
  · exact .inl (.inl (x.1 _ _ h (.inl ha) (fun _ z => by cases z)))
  · exact .inl (.inr ⟨o, x.1 _ _ h (.inl ha) (fun _ z => by cases z)⟩)
  · exact .inr h
theorem Ext.own (x : Ext S H H') (ha : a ∉ S) {o : HO} (h : H a = some o) (hn : NoTbl o) : H' a = some o := x.1 _ _ h (.inl ha) hn
theorem SqT.new {p : Addr} : SqT K (upd H p (.tup xs)) p xs := .inl (.inl upd_same)
theorem SqL.new {p : Addr} : SqL K (upd H p (.lst xs)) p xs := .inl (.inl upd_same)

/-! ### data: what repr shows -/
mutual
/-- no list within -/
def noL : PyData → Bool
  | .list _ => false
  | .tuple xs => noLs xs
  | .dict _ => false
  | _ => true
def noLs : List PyData → Bool
  | [] => true
  | x :: xs => noL x && noLs xs
end
mutual
theorem Ext.dp (x : Ext S H H') : ∀ (d : PyData) (v : V), noL d = true → Dp K H v d → Dp K H' v d
  | .none, _, _, h => by cases h; exact .non
  | .bool b, _, _, h => by cases h; exact .bl b
  | .int i, _, _, h => by cases h; exact .int i
  | .str z, _, _, h => by cases h; exact .str z
  | .list ds, _, n, _ => by simp [noL] at n
  | .tuple ds, _, n, h => by
    cases h with
    | tup hs ha => exact .tup (x.tup hs) (Ext.dps x ds _ (by simpa [noL] using n) ha)
  | .dict _, _, n, _ => by simp [noL] at n
theorem Ext.dps (x : Ext S H H') : ∀ (ds : List PyData) (vs : List V), noLs ds = true → DpAll K H vs ds → DpAll K H' vs ds
  | [], _, _, h => by cases h; exact .nil
  | d :: ds, _, n, h => by
    simp only [noLs, Bool.and_eq_true] at n
    cases h with
    | cons h1 h2 => exact .cons (Ext.dp x d _ n.1 h1) (Ext.dps x ds _ n.2 h2)
end
mutual
theorem Ext.dp0 (x : Ext [] H H') : ∀ (d : PyData) (v : V), Dp K H v d → Dp K H' v d
  | .none, _, h => by cases h; exact .non
  | .bool b, _, h => by cases h; exact .bl b
  | .int i, _, h => by cases h; exact .int i
  | .str z, _, h => by cases h; exact .str z
  | .list ds, _, h => by
    cases h with
    | lst hs ha => exact .lst (x.lst (by simp) hs) (Ext.dps0 x ds _ ha)
  | .tuple ds, _, h => by
    cases h with
    | tup hs ha => exact .tup (x.tup hs) (Ext.dps0 x ds _ ha)
  | .dict _, _, h => by cases h
theorem Ext.dps0 (x : Ext [] H H') : ∀ (ds : List PyData) (vs : List V), DpAll K H vs ds → DpAll K H' vs ds
  | [], _, h => by cases h; exact .nil
  | d :: ds, _, h => by
    cases h with
    | cons h1 h2 => exact .cons (Ext.dp0 x d _ h1) (Ext.dps0 x ds _ h2)
end
end
mutual
/-- at most so many signs -/
def wt : PyData → Nat
  | .none => 8
  | .bool _ => 8
  | .int _ => 2000
  | .str x => (reprText x).length
  | .list xs => wts xs + 8
  | .tuple xs => wts xs + 8
  | .dict _ => 0
def wts : List PyData → Nat
  | [] => 0
  | x :: xs => wt x + 2 + wts xs
end
end G9
set_option Elab.async false
set_option linter.all false
set_option maxRecDepth 100000
set_option maxHeartbeats 2000000
namespace G9
open PySem PySem.Spec PyProof.Rows L2 GxR

mutual
theorem shown_le : ∀ (d : PyData), d.showable = true → d.hasDict = false → d.shown.length ≤ wt d
  | .none, _, _ => by show (Str.ofString "None").length ≤ 8; decide +kernel
  | .bool b, _, _ => by cases b <;> (simp only [PyData.shown, wt]; decide +kernel)
  | .int i, h, _ => by
    have h' : i.natAbs.log2 < 1920 := by simpa [PyData.showable] using h
    have := int_text_len_1921 h'
    simp only [PyData.shown, wt]
    omega
  | .str x, _, _ => Nat.le_refl _
  | .list xs, h, g => by
    have q := shown_all_le xs (by simpa [PyData.showable] using h) (by simpa [PyData.hasDict] using g)
    simp only [PyData.shown, wt]
    have := listText_len_le (PyData.shownAll xs)
    omega
  | .tuple xs, h, g => by
    have q := shown_all_le xs (by simpa [PyData.showable] using h) (by simpa [PyData.hasDict] using g)
    simp only [PyData.shown, wt]
    have := tupleText_len_le (PyData.shownAll xs)
    omega
  | .dict _, _, g => by simp [PyData.hasDict] at g
theorem shown_all_le : ∀ (xs : List PyData), PyData.showableAll xs = true → PyData.hasDictAll xs = false → ((PyData.shownAll xs).map (·.length)).sum + 2 * (PyData.shownAll xs).length ≤ wts xs
  | [], _, _ => by simp [PyData.shownAll, wts]
  | x :: xs, h, g => by
    simp only [PyData.showableAll, Bool.and_eq_true] at h
    simp only [PyData.hasDictAll, Bool.or_eq_false_iff] at g
    have h1 := shown_le x h.1 g.1
    have h2 := shown_all_le xs h.2 g.2
    simp only [PyData.shownAll, wts, List.map_cons, List.sum_cons, List.length_cons]
    omega
end

/-- may be shown: by at most n signs, no deeper than k -/
structure Shw (d : PyData) (n k : Nat) : Prop where
  s : d.showable = true
  h : d.hasDict = false
  e : d.depth ≤ k
  w : wt d ≤ n
theorem Shw.mono {d n k n' k'} (s : Shw d n k) (h1 : n ≤ n') (h2 : k ≤ k') : Shw d n' k' := ⟨s.s, s.h, Nat.le_trans s.e h2, Nat.le_trans s.w h1⟩
theorem Shw.none : Shw .none 8 0 := ⟨rfl, rfl, by simp [PyData.depth], by simp [wt]⟩
theorem Shw.bool (b : Bool) : Shw (.bool b) 8 0 := ⟨rfl, rfl, by simp [PyData.depth], by simp [wt]⟩
theorem log2_small {i : Int} (h : i.natAbs < 2 ^ 64) : i.natAbs.log2 < 1920 := by
  by_cases hz : i.natAbs = 0
  · rw [hz]; decide
  · exact (Nat.log2_lt hz).mpr (Nat.lt_of_lt_of_le h (Nat.pow_le_pow_right (by decide : 0 < 2) (by decide : 64 ≤ 1920)))
theorem Shw.int {i : Int} (h : i.natAbs < 2 ^ 64) : Shw (.int i) 2000 0 := ⟨by simp only [PyData.showable, decide_eq_true_eq]; exact log2_small h, rfl, by simp [PyData.depth], by simp [wt]⟩
theorem showAll {xs : List PyData} {n k : Nat} (h : ∀ x ∈ xs, Shw x n k) : PyData.showableAll xs = true ∧ PyData.hasDictAll xs = false ∧ PyData.depthAll xs ≤ k ∧ wts xs ≤ xs.length * (n + 2) := by
  induction xs with
  | nil => exact ⟨rfl, rfl, by simp [PyData.depthAll], by simp [wts]⟩
  | cons x xs ih =>
    obtain ⟨a, b, c, d⟩ := ih fun y hy => h y (List.mem_cons_of_mem _ hy)
    have q := h x List.mem_cons_self
    refine ⟨by simp [PyData.showableAll, q.s, a], by simp [PyData.hasDictAll, q.h, b], ?_, ?_⟩
    · have := q.e
      simp only [PyData.depthAll]
      omega
    · have := q.w
      simp only [wts, List.length_cons, Nat.add_mul, Nat.one_mul]
      omega
theorem Shw.tuple {xs : List PyData} {n k m : Nat} (h : ∀ x ∈ xs, Shw x n k) (hm : xs.length ≤ m) : Shw (.tuple xs) (m * (n + 2) + 8) (k + 1) := by
  obtain ⟨a, b, c, d⟩ := showAll h
  refine ⟨by simpa [PyData.showable] using a, by simpa [PyData.hasDict] using b, ?_, ?_⟩
  · simp only [PyData.depth]; omega
  · have : xs.length * (n + 2) ≤ m * (n + 2) := Nat.mul_le_mul_right _ hm
    simp only [wt]; omega
theorem Shw.list {xs : List PyData} {n k m : Nat} (h : ∀ x ∈ xs, Shw x n k) (hm : xs.length ≤ m) : Shw (.list xs) (m * (n + 2) + 8) (k + 1) := by
  obtain ⟨a, b, c, d⟩ := showAll h
  refine ⟨by simpa [PyData.showable] using a, by simpa [PyData.hasDict] using b, ?_, ?_⟩
  · simp only [PyData.depth]; omega
  · have : xs.length * (n + 2) ≤ m * (n + 2) := Nat.mul_le_mul_right _ hm
    simp only [wt]; omega

section
variable {X : Cx}
/-- repr of data -/
def rRepr (K : PySem.W.Frag) : List V → Hp → VK → Prop := fun xs H Q => ∃ v d, xs = [v] ∧ Dp K H v d ∧ Shw d 10000000 60 ∧ Q (.str d.shown) H
theorem call_reprD {k : Nat} (hgu : X.A.guards = some []) (hr : Room k X.A) : CallR X (.builtin "repr") (rRepr X.K) := by
  intro pins s σ H xs us Q I r h
  obtain ⟨v, d, rfl, hd, S, q⟩ := h
  obtain ⟨u, rfl, ru⟩ := vals1 r
  have hle : d.shown.length ≤ sizeLine := Nat.le_trans (shown_le d S.s S.h) (Nat.le_trans S.w (by decide : 10000000 ≤ sizeLine))
  obtain ⟨as, rd⟩ := Dp.reads I d v u hd ru
  cases hd with
  | non => cases ru; exact PySem.P.repr_of_none ⟨.str _, H, I.tok _, ⟨_, rfl⟩, q⟩
  | bl b => cases ru; exact PySem.P.repr_of_bool ⟨.str _, H, I.tok _, ⟨_, rfl⟩, by cases b <;> exact q⟩
  | int i =>
    obtain ⟨t, rfl⟩ := ru
    exact PySem.P.repr_of_int (by simpa [PyData.showable] using S.s) ⟨.str _, H, I.tok _, ⟨_, rfl⟩, q⟩
  | str z =>
    obtain ⟨t, rfl⟩ := ru
    exact PySem.P.repr_of_str ⟨.str _, H, I.tok _, ⟨_, rfl⟩, q⟩ hle
  | lst hs ha =>
    cases ru
    exact repr_of_reads' rd S.s (PyData.noDict_hsm S.h) hgu (by have := S.e; have := hr.un; omega) (fun _ _ e => e) (fun h' u tk hk => ⟨.str _, H, I.kept (t' := tk) hk, ⟨_, rfl⟩, q⟩) hle
  | tup hs ha =>
    cases ru
    exact repr_of_reads' rd S.s (PyData.noDict_hsm S.h) hgu (by have := S.e; have := hr.un; omega) (fun _ _ e => e) (fun h' u tk hk => ⟨.str _, H, I.kept (t' := tk) hk, ⟨_, rfl⟩, q⟩) hle
end
end G9
set_option Elab.async false
set_option linter.all false
set_option maxRecDepth 100000
set_option maxHeartbeats 2000000
namespace G9
open PySem PySem.Spec PyProof.Rows L2 GxR

theorem perm_lift {α β : Type} {f : α → β} {vs ws : List β} (p : vs.Perm ws) : ∀ L : List α, ws = L.map f → ∃ L1 : List α, L1.Perm L ∧ vs = L1.map f := by
  induction p with
  | nil =>
    intro L e
    exact ⟨L, .refl _, e⟩
  | cons x _ ih =>
    intro L e
    cases L with
    | nil => cases e
    | cons y L =>
      obtain ⟨e1, e2⟩ := List.cons.inj e
      obtain ⟨L1, q, e3⟩ := ih L e2
      exact ⟨y :: L1, q.cons y, by rw [List.map_cons, e1, e3]⟩
  | swap x y l =>
    intro L e
    match L, e with
    | a :: b :: L, e =>
      obtain ⟨e1, e2⟩ := List.cons.inj e
      obtain ⟨e2, e3⟩ := List.cons.inj e2
      exact ⟨b :: a :: L, .swap .., by rw [List.map_cons, List.map_cons, e1, e2, e3]⟩
  | trans _ _ ih1 ih2 =>
    intro L e
    obtain ⟨L1, q, e1⟩ := ih2 L e
    obtain ⟨L2, q2, e2⟩ := ih1 L1 e1
    exact ⟨L2, q2.trans q, e2⟩
def encT (q : Addr × List Int) : PyData := .tuple (q.2.map .int)
theorem dataLe_T : PySem.W.dataLe false encT = fun p q => !decide (q.2 < p.2) := by
  funext p q
  have e : PySem.W.dataLt (encT q) (encT p) = decide (q.2 < p.2) := PySem.W.dataLt_ints q.2 p.2
  rw [PySem.W.dataLe_eq, ← e]
  rfl
theorem each_refs {h : Heap} {P : Program} {w : World} : ∀ (L : List (Addr × List Int)), PySem.W.EachIs (fun v (q : Addr × List Int) => v = Value.ref q.1) (L.map fun q => Value.ref q.1) L
  | [] => .nil
  | q :: L => .cons rfl (each_refs (h := h) (P := P) (w := w) L)
theorem refs_each : ∀ {out : List Value} {L : List (Addr × List Int)}, PySem.W.EachIs (fun v (q : Addr × List Int) => v = Value.ref q.1) out L → out = L.map fun q => Value.ref q.1
  | _, _, .nil => rfl
  | _, _, .cons e t => by rw [List.map_cons, ← refs_each t, e]
section
variable {P : Program} {w : World} {A : Around} {E : Value → Shared → Prop} {s : Shared}
theorem sorted_setD {a : Addr} {L : List (Addr × List Int)} {es : Array (Int × Value)} {ep : Nat} {t : SetTable} {Q : Value → Shared → Prop} (R : SetTR P w s.heap a L es ep t) (hh : A.handled = none) (hu : A.units + 8 < cLine) (hne : ∀ q ∈ L, q.2 ≠ [])
    (hQ : ∀ s' p (out : Array Value) (c : Nat) (L' : List (Addr × List Int)), (∀ b o, s.heap.get? b = some o → s'.heap.get? b = some o) → s'.gens = s.gens → s'.os = s.os → s.heap.objs.size ≤ p →
      s'.heap.get? p = some (seqObj "list" out c) → out.toList = L'.map (fun q => Value.ref q.1) → L'.Perm L → L'.Pairwise (fun q r => ¬ r.2 < q.2) → Q (.ref p) s') :
    wpAny (model P w) A (call (.builtin "sorted") [.ref a]) Q E s := by
  obtain ⟨o, ho, hex, hd⟩ := R.ob
  have hfew := R.few
  have hsz := R.size
  refine Calls.call_function_entry kind_sorted plain_sorted entry_sorted (args_sorted1 _) ?_
  unfold Builtin.«sorted»
  refine wpAny_bind (m := checkCount "sorted" 1 1 _) (wpAny_pure ?_)
  refine wpAny_bind (collect_set (A := A.in1) hh ⟨o, ho, hex.1, hd⟩ R.fits (by unfold scanBound; omega) R.tab.ris R.led fun s1 vs k1 hz g1 o1 pm => ?_)
  have em : es.toList.map (·.2) = L.map fun q => Value.ref q.1 := by
    rw [R.rows]
    unfold rowsOf
    rw [List.map_map] <;> rfl
  rw [em] at pm
  obtain ⟨L1, p1, rfl⟩ := perm_lift pm L rfl
  have hvl : (L1.map fun q => Value.ref q.1).length < 64 := by rw [List.length_map, p1.length_eq]; exact hfew
  refine wpAny_bind (wpAny_newList ?_ (by rw [sizeLine_eq]; omega))
  generalize hvs : (L1.map fun q => Value.ref q.1) = vs at hvl
  have hoL : (s1.heap.push (seqObj "list" vs.toArray 0)).get? s1.heap.objs.size = some (seqObj "list" vs.toArray 0) := Heap.get?_push_size _ rfl
  have rd : ∀ q ∈ L1, Reads (s1.heap.push (seqObj "list" vs.toArray 0)) (.ref q.1) (encT q) [] := fun q hq => by
    obtain ⟨b, items, e, hT, hI⟩ := tupInts_of (P := P) (w := w) (isT_keep (R.tup q (p1.mem_iff.mp hq)) fun b u e => Heap.get?_push_of_some (seqObj "list" vs.toArray 0) (k1 b u e))
    cases e
    exact reads_tuple_ints (vr := items.toList) (by simpa using hT) (by simpa using hI)
  have er : ∀ l : List (Addr × List Int), (∀ q ∈ l, q ∈ L1) → PySem.W.EachIs (fun v b => ∃ as, Reads (s1.heap.push (seqObj "list" vs.toArray 0)) v (encT b) as ∧ s1.heap.objs.size ∉ as) (l.map fun q => Value.ref q.1) l := by
    intro l
    induction l with
    | nil => intro _; exact .nil
    | cons q l ih => intro h; exact .cons ⟨[], rd q (h q List.mem_cons_self), by simp⟩ (ih fun r hr => h r (List.mem_cons_of_mem _ hr))
  have er1 := er L1 fun _ h => h
  have ee := each_refs (h := s1.heap) (P := P) (w := w) L1
  rw [hvs] at er1 ee
  refine wpAny_bind (wpAny_holding (PySem.W.list_sort_data (s := { s1 with heap := s1.heap.push (seqObj "list" vs.toArray 0) }) hoL ee er1
    (fun d hd d' hd' => by
      obtain ⟨q, _, rfl⟩ := List.mem_map.mp hd
      obtain ⟨q', _, rfl⟩ := List.mem_map.mp hd'
      exact PySem.W.alike_ints q.2 q'.2)
    (.inl fun d hd => by
      obtain ⟨q, hq, rfl⟩ := List.mem_map.mp hd
      have := hne q (p1.mem_iff.mp hq)
      obtain ⟨a, b⟩ := q
      cases b with
      | nil => exact absurd rfl this
      | cons x r => exact ⟨_, _, rfl⟩) (by rw [p1.length_eq]; rw [sizeLine_eq]; omega)
    (fun b _ => by
      have : (encT b).depth = 1 := by
        show PyData.depthAll _ + 1 = 1
        rw [PySem.W.depth_ints]
      rw [this]
      show A.units + 1 + 1 + 1 < cLine
      omega) fun out ho' he => ?_))
  obtain ⟨c, hc⟩ := sortedHeap_at (vs := vs) (out := out.toArray) hoL
  refine wpAny_pure ⟨_, rfl, hQ _ s1.heap.objs.size out.toArray c (L1.mergeSort (PySem.W.dataLe false encT)) (fun b u e => ?_) g1 o1 hz hc (by simpa using refs_each he) ((List.mergeSort_perm _ _).trans p1) ?_⟩
  · have q := k1 b u e
    have hlt := Heap.lt_size q
    show (sortedHeap (s1.heap.push (seqObj "list" vs.toArray 0)) s1.heap.objs.size vs out.toArray).get? b = some u
    rw [sortedHeap_old (Nat.ne_of_lt hlt) (by rw [size_push']; exact Nat.lt_succ_of_lt hlt)]
    exact Heap.get?_push_of_some _ q
  · rw [dataLe_T]
    have pw := List.pairwise_mergeSort (le := fun p q : Addr × List Int => !decide (q.2 < p.2)) (fun a b c h1 h2 => by
      simp only [Bool.not_eq_true', decide_eq_false_iff_not] at h1 h2 ⊢
      exact fun z => by
        have h1' : a.2 ≤ b.2 := List.not_lt.mp h1
        have h2' : b.2 ≤ c.2 := List.not_lt.mp h2
        exact List.not_lt.mpr (List.le_trans h1' h2') z) (fun a b => by
      simp only [Bool.or_eq_true, Bool.not_eq_true', decide_eq_false_iff_not]
      by_cases h : b.2 < a.2
      · exact .inr (List.not_lt.mpr (List.le_of_lt h))
      · exact .inl h) L1
    exact pw.imp fun h => by simpa using h
end
section
variable {X : Cx}
/-- sorted(a set of tuples of ints, none of them empty) -/
def rSortedTs (K : PySem.W.Frag) (P : Program) (w : World) : List V → Hp → VK → Prop := fun vs H Q => ∃ (a : Addr) (L : List (Addr × List Int)), vs = [V.ref a] ∧ H a = some (SetTO P w a L) ∧ (∀ p ∈ L, SqT K H p.1 (p.2.map V.int)) ∧ (∀ p ∈ L, p.2 ≠ []) ∧
  ∀ (L' : List (Addr × List Int)) (p : Addr), L'.Perm L → (L'.map (·.2)).Nodup → L'.length < 64 → L'.Pairwise (fun q r => ¬ r.2 < q.2) → H p = none → Q (.ref p) (upd H p (.lst (L'.map fun q => V.ref q.1)))
theorem call_sortedTs {k : Nat} (hr : Room k X.A) (hc : X.calm = true) : CallR X (.builtin "sorted") (rSortedTs X.K X.prog X.w) := by
  intro pins s σ H vs us Q I r h
  obtain ⟨a, L, rfl, ha, hk, hne, q⟩ := h
  have R0 : SetT0 X.prog X.w s.heap a L := (I.hok a _ ha).1
  obtain ⟨es, ep, t, R⟩ := R0.full fun p hp => I.isT (hk p hp)
  rw [Vals.ref1 r]
  refine sorted_setD R (I.ok.hd hc) (by have := hr.un; omega) hne fun s' p out c L' k g o hp hg hout pm pw => ?_
  have hfew : L'.length < 64 := by rw [pm.length_eq]; exact R.few
  have hn : H p = none := I.hok.fresh hp
  have hv : Vals (L'.map fun q => V.ref q.1) out.toList := by rw [hout]; exact vals_of_refs L'
  have J := I.call' (s' := s') (ch := []) o (Un.laid k hp hn) (I.hok.laid (o := .lst (L'.map fun q => V.ref q.1)) k hp ⟨by rw [List.length_map, sizeLine_eq]; omega, out.toList, c, hv, hg⟩) (by rw [g]; exact I.bare) (fun _ z => nomatch z)
  exact ⟨.ref p, _, J, rfl, q L' p pm ((pm.map (·.2)).nodup_iff.mpr R.nd) hfew pw hn⟩
end
end G9
set_option Elab.async false
set_option linter.all false
set_option maxRecDepth 100000
set_option maxHeartbeats 2000000
namespace G9
open PySem PySem.Spec PyProof.Rows L2 GxR

/-- the abstract heap at the law's entry: empty tables of code, the script (where it is no object of the module) -/
def Hst (ts : List Addr) (fz : Bool) (a : Addr) (o : Obj) (ns : List Int) : Hp := fun b => if b ∈ ts then some (.tbl #[]) else if b = a ∧ fz = true then some (.frz o (.lst (ns.map V.int))) else none
theorem Hst.tab {ts fz a o ns b} (h : b ∈ ts) : Hst ts fz a o ns b = some (.tbl #[]) := if_pos h
theorem Hst.cases {ts fz a o ns b u} (h : Hst ts fz a o ns b = some u) : (b ∈ ts ∧ u = .tbl #[]) ∨ (b ∉ ts ∧ b = a ∧ fz = true ∧ u = .frz o (.lst (ns.map V.int))) := by
  unfold Hst at h
  by_cases hb : b ∈ ts
  · rw [if_pos hb] at h
    exact .inl ⟨hb, (Option.some.inj h).symm⟩
  · rw [if_neg hb] at h
    by_cases hc : b = a ∧ fz = true
    · rw [if_pos hc] at h
      exact .inr ⟨hb, hc.1, hc.2, (Option.some.inj h).symm⟩
    · rw [if_neg hc] at h
      cases h

theorem law_end {P : Program} {w : World} {K : PySem.W.Frag} {mg mb : Str → Option Value} {k : Nat} {fa a : Addr} {cs : List (Addr × Addr)} {fd : FuncData} {x : Str} {sp : Sp} {s₁ : Shared} {vs : List Value} {ns : List Int}
    (KX : K.In s₁.heap) (hns : s₁.heap.Ns mainGlobals mg) (hb : s₁.heap.Ns builtinsNs mb) (hbb : ∀ x : Str, x ≠ "__name__" → mb x = bootBuiltins x) (hlim : s₁.heap.NoLimit) (hg : s₁.gens = #[])
    (hT : ∀ p ∈ cs, s₁.heap.get? p.2 = some { cls := .none, data := .fields #[] }) (nT : ∀ p ∈ cs, K.lookup p.2 = none) (C : ∀ p ∈ cs, PySem.W.CodeHd s₁.heap p.1 p.2)
    (hbm : ∃ (bm : Addr) (ob : Obj), mg "__builtins__" = some (.ref bm) ∧ bm ≠ builtinsNs ∧ s₁.heap.get? bm = some ob ∧ ob.cls = .type "module" ∧ ob.dict = some builtinsNs ∧ ob.data = .plain)
    (ha : s₁.heap.get? a = some { cls := .type "list", data := .seq vs.toArray }) (hi : IntsAre vs ns) (hl : ns.length ≤ sizeLine) (hr : Room k callerA)
    (F : ∀ base : Heap, K.In base → base.Ns mainGlobals mg → (∀ p ∈ cs, TabB base mg p.1 p.2) → FnG P w K mg base k fa fd [x] sp) (hbind : ∀ (s : Shared) (u : Value), BindsTo s fd ⟨[u], []⟩ [(x, u)])
    (hsp : ∀ H : Hp, (∀ p ∈ cs, TabG H p.2) → SqL K H a (ns.map V.int) → sp [.ref a] H (fun v _ => v = .bl true) E0) :
    codeAny (model P w) callerA (.call (.ref fa) ⟨[.ref a], []⟩) (fun r s' => r = .ok (.ret (.bool true)) ∧ OldK s₁.heap s'.heap ∧ s'.os = s₁.os ∧ AllBare s'.gens) s₁ := by
  have rv := vals_ints hi
  have lenV := hi.length
  generalize hts : cs.map (·.2) = ts
  have inT : ∀ p ∈ cs, p.2 ∈ ts := fun p hp => hts ▸ List.mem_map.mpr ⟨p, hp, rfl⟩
  have isT : ∀ b ∈ ts, s₁.heap.get? b = some { cls := .none, data := .fields #[] } ∧ K.lookup b = none := fun b hb => by
    rw [← hts] at hb
    obtain ⟨p, hp, e⟩ := List.mem_map.mp hb
    exact e ▸ ⟨hT p hp, nT p hp⟩
  have aT : a ∉ ts := fun z => by
    have q := (isT a z).1
    rw [ha] at q
    injection q with q
    injection q with _ _ q
    cases q
  generalize hH : Hst ts (K.lookup a).isNone a { cls := .type "list", data := .seq vs.toArray } ns = H
  have ofH : ∀ {b u}, H b = some u → (b ∈ ts ∧ u = .tbl #[]) ∨ (b ∉ ts ∧ b = a ∧ (K.lookup a).isNone = true ∧ u = .frz { cls := .type "list", data := .seq vs.toArray } (.lst (ns.map V.int))) := fun {b u} e => by
    rw [← hH] at e
    exact Hst.cases e
  have tabH : ∀ b ∈ ts, H b = some (.tbl #[]) := fun b hb => by
    rw [← hH]
    exact Hst.tab hb
  have ok : HOk P w H s₁.heap := fun b u e => by
    rcases ofH e with ⟨h1, rfl⟩ | ⟨_, rfl, _, rfl⟩
    · exact (isT b h1).1
    · exact ⟨ha, by rw [List.length_map]; exact hl, vs, _, rv, ha⟩
  -- what is no table and not the script is seen in the base
  have seen : ∀ {b : Addr} {o : Obj}, s₁.heap.get? b = some o → (∀ v n, o.data ≠ .seq v n) → o.data ≠ .fields #[] → H b = none := fun {b o} e h1 h2 => by
    cases q : H b with
    | none => rfl
    | some u =>
      rcases ofH q with ⟨z, _⟩ | ⟨_, z, _, _⟩
      · rw [(isT b z).1] at e
        cases e
        exact absurd rfl h2
      · rw [z, ha] at e
        cases e
        exact absurd rfl (h1 _ _)
  have nsB : ∀ {b : Addr} {m : Str → Option Value}, s₁.heap.Ns b m → (hidT s₁.heap H).Ns b m := fun {b m} ⟨o, es, ep, e, d, r⟩ => ⟨o, es, ep, hidT_get e (seen e (fun v n z => by rw [d] at z; cases z) fun z => by rw [d] at z; cases z), d, r⟩
  have kB : K.In (hidT s₁.heap H) := fun b o e => hidT_get (KX b o e) (by
    cases q : H b with
    | none => rfl
    | some u =>
      rcases ofH q with ⟨z, _⟩ | ⟨_, z, z2, _⟩
      · rw [(isT b z).2] at e
        cases e
      · rw [z] at e
        rw [e] at z2
        cases z2)
  have hM : L2.Mod K mg (hidT s₁.heap H) := ⟨kB, nsB hns, ⟨mb, nsB hb, hbb⟩, by obtain ⟨mc, h1, h2⟩ := hlim; exact ⟨mc, nsB h1, h2⟩⟩
  have TB : ∀ p ∈ cs, TabB (hidT s₁.heap H) mg p.1 p.2 := fun p hp => by
    refine ⟨?_, ?_, fun z => ?_⟩
    · obtain ⟨o, us, file, tf, flags, tg, inF, text, tt, e1, r1, r2, r3, r4, r5, r6, r7, r8, hne⟩ := C p hp
      refine ⟨o, us, file, tf, flags, tg, inF, text, tt, hidT_get e1 (seen e1 (fun v n z => ?_) fun z => ?_), r1, r2, r3, r4, r5, r6, r7, r8, hne⟩
      · rw [r2] at z
        cases z
      · rw [r2] at z
        injection z with z
        rw [z] at r3
        simp at r3
    · obtain ⟨bm, ob, b1, b2, b3, b4, b5, b6⟩ := hbm
      refine ⟨bm, ob, b1, b2, fun q => ?_, fun q => ?_, hidT_get b3 (seen b3 (fun v n z => by rw [b6] at z; cases z) fun z => by rw [b6] at z; cases z), b4, b5, b6⟩
      · obtain ⟨o, es, ep, e, hd, _⟩ := hns
        rw [q, e] at b3
        cases b3
        rw [hd] at b6
        cases b6
      · rw [q, hT p hp] at b3
        cases b3
        cases b6
    · obtain ⟨o, es, ep, e, hd, _⟩ := hns
      rw [z, hT p hp] at e
      cases e
      cases hd
  have sq : SqL K H a (ns.map V.int) := by
    cases hk : K.lookup a with
    | none => exact .inl (.inr ⟨{ cls := .type "list", data := .seq vs.toArray }, by rw [← hH]; unfold Hst; rw [if_neg aT, if_pos ⟨rfl, by rw [hk]; rfl⟩]⟩)
    | some o =>
      have e := KX a o hk
      rw [ha] at e
      cases e
      exact .inr ⟨_, vs.toArray, _, hk, rfl, rfl, rfl, by rw [List.size_toArray, lenV]; exact hl, by simpa using rv⟩
  have e0 : Env0 P w K mg (hidT s₁.heap H) callerA [] s₁ H := ⟨rfl, hM, fun b o e => of_hidT e, Nat.le_of_eq (hidT_size _ _), trivial, fun b hb => absurd (show b ∈ ([] : List Addr) from hb) (by simp), ok, .of_eq hg⟩
  refine codeAny_mono ((F _ kB (nsB hns) TB).run callerA [] s₁ H ⟨[.ref a], []⟩ [.ref a] [.ref a] _ rfl hr e0 (hbind s₁ (.ref a)) (.cons rfl .nil) (hsp H (fun p hp => ⟨#[], tabH _ (inT p hp), trivial⟩) sq)) fun r s' h => ?_
  cases r with
  | error e => exact False.elim h
  | ok fl =>
    cases fl with
    | next => exact False.elim h
    | brk => exact False.elim h
    | cont => exact False.elim h
    | ret u =>
      obtain ⟨v, H', os, bare, un, hok', r', q⟩ := h
      have q' : v = .bl true := q
      subst q'
      cases r'
      have grown : ∀ b ∈ ts, ∃ more : Array Value, s'.heap.get? b = some { cls := .none, data := .fields more } := fun b hb => by
        obtain ⟨more, z⟩ := un.tbls b #[] (tabH b hb)
        exact ⟨_, hok' b _ z⟩
      have kept : ∀ b o, b ∉ ts → s₁.heap.get? b = some o → s'.heap.get? b = some o := fun b o nb e => by
        cases q : H b with
        | none => exact un.keep b o e q (fun z => absurd (show b ∈ ([] : List Addr) from z) (by simp)) (by simp)
        | some u =>
          rcases ofH q with ⟨z, _⟩ | ⟨_, _, _, rfl⟩
          · exact absurd z nb
          · have e1 := (ok b _ q).1
            rw [e] at e1
            cases e1
            exact (hok' b _ (un.frzs b _ _ q)).1
      refine ⟨rfl, ⟨fun b o e => ?_, fun b o e => ?_⟩, os, bare⟩
      · by_cases hbt : b ∈ ts
        · obtain ⟨more, hm⟩ := grown b hbt
          rw [← hts] at hbt
          obtain ⟨p, hp, ep⟩ := List.mem_map.mp hbt
          have ep' : p.2 = b := ep
          subst ep'
          rw [hT p hp] at e
          cases e
          exact .inr (.inl ⟨((C p hp).tab (hT p hp)).isCodeTable, rfl, #[], more, rfl, by rw [Array.empty_append]; exact hm⟩)
        · exact .inl (kept b o hbt e)
      · by_cases hbt : b ∈ ts
        · obtain ⟨more, hm⟩ := grown b hbt
          exact ⟨_, hm⟩
        · exact ⟨o, kept b o hbt e⟩

/-- what is known of the law at the head's heap -/
def LawG (l : PySem.W.OpenLaw) (w : World) (K : PySem.W.Frag) (k n : Nat) (x : Str) (mg : Str → Option Value) (fa : Addr) (h : Heap) : Prop :=
  ∃ (fd : FuncData) (cs : List (Addr × Addr)) (sp : Sp), (∀ p ∈ cs, h.get? p.2 = some { cls := .none, data := .fields #[] }) ∧ (∀ p ∈ cs, K.lookup p.2 = none) ∧ (∀ p ∈ cs, PySem.W.CodeHd h p.1 p.2) ∧ (∀ (s : Shared) (u : Value), BindsTo s fd ⟨[u], []⟩ [(x, u)]) ∧
    (∀ (H : Hp) (a : Addr) (ns : List Int), ns.length ≤ n → (∀ z ∈ ns, Builtin.Int.intBits z ≤ 1048576) → (∀ p ∈ cs, TabG H p.2) → SqL K H a (ns.map V.int) → sp [.ref a] H (fun v _ => v = .bl true) E0) ∧
    ∀ base : Heap, K.In base → base.Ns mainGlobals mg → (∀ p ∈ cs, TabB base mg p.1 p.2) → FnG l.prog w K mg base k fa fd [x] sp
theorem walk_G {l : PySem.W.OpenLaw} {n k : Nat} {q : Program} {loose : List Str} {XP : (Str → Option Value) → Heap → Prop} {YP : World → Heap → Prop} {d : DefRec} {K : Params → PySem.W.Frag} {x : Str}
    (hn : l.most = some n) (hn2 : n ≤ sizeLine) (hdf : d.params.defaults = []) (hr : Room k callerA) (hY : ∀ (w : World) (h : Heap), YP w h → (K w.params).In h)
    (F : ∀ (w : World) (mean : ExcName → Option Value) (mg mb : Str → Option Value) (fa : Addr) (h : Heap), (K w.params).In h → Top q (PySem.W.looseW q loose) mean mg mb h → mg d.name = some (.ref fa) → LawG l w (K w.params) k n x mg fa h) :
    PySem.W.WalkO q loose XP YP l.row.toRowW d [] (fun f vs => PySem.call f vs) := by
  refine Att.attach_callB hn hdf fun w s₀ s₁ mg mb fa o pm cd doc a vs ns G Y ho hd hcd hmg hobj hints hlen hbits hg => ?_
  have KX := hY w _ Y
  obtain ⟨fd, cs, sp, hT, nT, C, hb, hsp, hF⟩ := F w _ mg mb fa _ KX G.T hmg
  exact law_end KX G.T.g G.T.b G.T.builtins G.T.nolimit hg hT nT C G.T.bmain hobj hints (Nat.le_trans hlen hn2) hr hF hb fun H hH hS => hsp H a ns hlen hbits hH hS
end G9
set_option Elab.async false
set_option linter.all false
set_option maxRecDepth 100000
set_option maxHeartbeats 2000000
namespace G9
open PySem PySem.Spec PyProof.Rows L2 GxR RT
section
variable {X : Cx}
/-- set(a tuple of ints) -/
def rSetOfI (K : PySem.W.Frag) (w : World) : List V → Hp → VK → Prop := fun xs H Q => ∃ (l : Addr) (ns : List Int), xs = [V.ref l] ∧ SqT K H l (ns.map V.int) ∧ ns.length ≤ 1000 ∧ ∀ a c, H a = none → c ≤ ns.length → Q (.ref a) (upd H a (SetO w a (fun j => decide (j ∈ ns)) c))
theorem cr_setOfI (hc : X.calm = true) : CallR X (.type "set") (rSetOfI X.K X.w) := by
  intro pins s σ H xs us Q I r h
  obtain ⟨l, ns, rfl, hl, hf, q⟩ := h
  rw [Vals.ref1 r]
  obtain ⟨its, rv, pl, hz⟩ := I.tuple hl
  have hn : H s.heap.objs.size = none := I.hok.fresh (Nat.le_refl _)
  refine call_set_tupI (P := X.prog) (w := X.w) ns (I.ok.hd hc) (show s.heap.IsTuple l its.toArray from pl) (by simpa using ints_of_vals rv) (by unfold scanBound; omega) fun h' tk c R hc' k => ?_
  exact ⟨.ref s.heap.objs.size, upd H s.heap.objs.size (SetO X.w s.heap.objs.size (fun j => decide (j ∈ ns)) c), I.laid (t' := tk) k (Nat.le_refl _) (setO_new R), rfl, q _ c hn hc'⟩
end
theorem for_revT {K : PySem.W.Frag} {a : Addr} {n : Nat} {xs : List V} {g : TG} {tb : TS} {D : Ends} {σ : L2.St} {H : Hp} (hn : xs.length = n) (Pv : Nat → L2.St → Hp → Prop) (h0 : Pv 0 σ H) (hq : ∀ i σ H, i ≤ n → Pv i σ H → SqT K H a xs)
    (hs : ∀ i x σ H, i < n → xs[n - 1 - i]? = some x → Pv i σ H → g x σ H fun σ2 H2 => tb { D with nx := Pv (i + 1), ct := Pv (i + 1), bk := D.nx } σ2 H2) (hd : ∀ σ H, Pv n σ H → D.nx σ H) :
    ∃ W : Nat → Nat → L2.St → Hp → Prop, (∃ m, W 0 m σ H) ∧ ∀ i m σ H, W i m σ H →
      ((ItvT K a n).stop i H ∧ D.nx σ H) ∨ ((ItvT K a n).go i H ∧ ∃ N : L2.St → Hp → Prop, (∀ σ' H', N σ' H' → ∃ m', m' < m ∧ W (i + 1) m' σ' H') ∧ ∀ x H', (ItvT K a n).yld i H x H' → g x σ H' fun σ2 H2 => tb { D with nx := N, ct := N, bk := D.nx } σ2 H2) := by
  refine ⟨fun i m σ H => m = n - i ∧ i ≤ n ∧ Pv i σ H, ⟨_, rfl, Nat.zero_le _, h0⟩, ?_⟩
  rintro i m σ H ⟨rfl, hi, p⟩
  have sq := hq i σ H hi p
  by_cases hlt : i < n
  · have hk : n - 1 - i < xs.length := by omega
    refine .inr ⟨⟨hlt, xs, xs[n - 1 - i], sq, List.getElem?_eq_getElem hk⟩, Pv (i + 1), fun σ' H' p' => ⟨n - (i + 1), by omega, rfl, hlt, p'⟩, fun x H' y => ?_⟩
    obtain ⟨e, y⟩ := y
    subst e
    exact hs i x σ _ hlt (y xs sq) p
  · have e : i = n := by omega
    subst e
    exact .inl ⟨Nat.le_refl _, hd σ H p⟩
end G9
set_option Elab.async false
set_option linter.all false
set_option maxRecDepth 100000
set_option maxHeartbeats 2000000
namespace G9
open PySem PySem.Spec PyProof.Rows L2 GxR
section
variable {X : Cx}
/-- sorted(a list of tuples of ints, none of them empty) -/
def rSortedTl (K : PySem.W.Frag) : List V → Hp → VK → Prop := fun vs H Q => ∃ (a : Addr) (L : List (Addr × List Int)), vs = [V.ref a] ∧ SqL K H a (L.map fun q => V.ref q.1) ∧ (∀ p ∈ L, SqT K H p.1 (p.2.map V.int)) ∧ (∀ p ∈ L, p.2 ≠ []) ∧ L.length ≤ 1000 ∧
  ∀ (L' : List (Addr × List Int)) (p : Addr), L'.Perm L → L'.Pairwise (fun q r => ¬ r.2 < q.2) → H p = none → Q (.ref p) (upd H p (.lst (L'.map fun q => V.ref q.1)))
theorem vals_refs : ∀ {L : List (Addr × List Int)} {us : List Value}, Vals (L.map fun q => V.ref q.1) us → us = L.map fun q => Value.ref q.1
  | [], _, h => by cases h; rfl
  | q :: L, _, h => by
    cases h with
    | cons r t =>
      cases r
      rw [vals_refs t]
      rfl
theorem call_sortedTl {k : Nat} (hr : Room k X.A) : CallR X (.builtin "sorted") (rSortedTl X.K) := by
  intro pins s σ H vs us Q I r h
  obtain ⟨a, L, rfl, hs, hk, hne, hln, q⟩ := h
  obtain ⟨its, rv, hl, hz⟩ := I.list hs
  rw [Vals.ref1 r]
  have ev := vals_refs rv
  subst ev
  have rd : ∀ q ∈ L, Reads s.heap (.ref q.1) (encT q) [] := fun q hq => by
    obtain ⟨b, items, e, hT, hI⟩ := tupInts_of (P := X.prog) (w := X.w) (I.isT (hk q hq))
    cases e
    exact reads_tuple_ints (vr := items.toList) (by simpa using hT) (by simpa using hI)
  have er : ∀ l : List (Addr × List Int), (∀ q ∈ l, q ∈ L) → PySem.W.EachIs (fun v b => ∃ as, Reads s.heap v (encT b) as) (l.map fun q => Value.ref q.1) l := by
    intro l
    induction l with
    | nil => intro _; exact .nil
    | cons q l ih => intro h; exact .cons ⟨[], rd q (h q List.mem_cons_self)⟩ (ih fun r hr => h r (List.mem_cons_of_mem _ hr))
  refine PySem.W.sorted_data (R := fun v (q : Addr × List Int) => v = Value.ref q.1) hl.isList (each_refs (h := s.heap) (P := X.prog) (w := X.w) L) (er L fun _ h => h)
    (fun d hd d' hd' => by
      obtain ⟨q, _, rfl⟩ := List.mem_map.mp hd
      obtain ⟨q', _, rfl⟩ := List.mem_map.mp hd'
      exact PySem.W.alike_ints q.2 q'.2)
    (.inl fun d hd => by
      obtain ⟨q, hq, rfl⟩ := List.mem_map.mp hd
      have := hne q hq
      obtain ⟨a, b⟩ := q
      cases b with
      | nil => exact absurd rfl this
      | cons x r => exact ⟨_, _, rfl⟩) (by rw [sizeLine_eq]; omega)
    (fun b _ => by
      have : (encT b).depth = 1 := by
        show PyData.depthAll _ + 1 = 1
        rw [PySem.W.depth_ints]
      rw [this]
      have := hr.un
      omega) fun out ho' he => ?_
  have eo := refs_each he
  have pm : (L.mergeSort (PySem.W.dataLe false encT)).Perm L := List.mergeSort_perm _ _
  subst eo
  obtain ⟨ep, he'⟩ := PyProof.Rows.sortedAll_at s.heap (L.map fun q => Value.ref q.1) ((L.mergeSort (PySem.W.dataLe false encT)).map fun q => Value.ref q.1).toArray
  refine ⟨.ref _, upd H (s.heap.objs.size + 1) (.lst ((L.mergeSort (PySem.W.dataLe false encT)).map fun q => V.ref q.1)), I.laid (t' := s.toks) (fun _ _ => PyProof.Rows.sortedAll_old) (Nat.le_succ _) ⟨by rw [List.length_map, pm.length_eq, sizeLine_eq]; omega, _, ep, vals_of_refs _, he'⟩, rfl, q _ _ pm ?_ (I.hok.fresh (Nat.le_succ _))⟩
  rw [dataLe_T]
  have pw := List.pairwise_mergeSort (le := fun p q : Addr × List Int => !decide (q.2 < p.2)) (fun a b c h1 h2 => by
    simp only [Bool.not_eq_true', decide_eq_false_iff_not] at h1 h2 ⊢
    exact fun z => by
      have h1' : a.2 ≤ b.2 := List.not_lt.mp h1
      have h2' : b.2 ≤ c.2 := List.not_lt.mp h2
      exact List.not_lt.mpr (List.le_trans h1' h2') z) (fun a b => by
    simp only [Bool.or_eq_true, Bool.not_eq_true', decide_eq_false_iff_not]
    by_cases h : b.2 < a.2
    · exact .inr (List.not_lt.mpr (List.le_of_lt h))
    · exact .inl h) L
  exact pw.imp fun h => by simpa using h
end
end G9
set_option Elab.async false
set_option linter.all false
set_option maxRecDepth 100000
set_option maxHeartbeats 2000000
namespace G9
open PySem PySem.Spec PyProof.Rows L2 GxR
section
variable {P : Program} {w : World} {A : Around} {E : Value → Shared → Prop} {s : Shared}
theorem sorted_tupI {a : Addr} {items : Array Value} {ns : List Int} {Q : Value → Shared → Prop} (ht : s.heap.IsTuple a items) (hI : IntsAre items.toList ns) (h64 : items.toList.length < 64)
    (hQ : ∀ s' p (out : Array Value) (c : Nat) (ns' : List Int), (∀ b o, s.heap.get? b = some o → s'.heap.get? b = some o) → s'.gens = s.gens → s'.os = s.os → s.heap.get? p = none → (∀ H, HOk P w H s.heap → H p = none) →
      s'.heap.get? p = some (seqObj "list" out c) → IntsAre out.toList ns' → ns'.Perm ns → ns'.Pairwise (· ≤ ·) → Q (.ref p) s') :
    wpAny (model P w) A (call (.builtin "sorted") [.ref a]) Q E s := by
  obtain ⟨o, ho, hc, n, hd⟩ := id ht
  refine Calls.call_function_entry kind_sorted plain_sorted entry_sorted (args_sorted1 _) ?_
  unfold Builtin.«sorted»
  refine wpAny_bind (m := checkCount "sorted" 1 1 _) (wpAny_pure ?_)
  refine wpAny_bind (wpAny_collect_seq (A := A.in1) a (.inr rfl) ho hc hd (fun h' hk => ?_) (by rw [← Array.length_toList, sizeLine_eq]; omega))
  refine wpAny_bind (wpAny_newList ?_ (by rw [sizeLine_eq]; omega))
  generalize hvs : items.toList = vs at hI h64
  have hoL : (h'.push (seqObj "list" vs.toArray 0)).get? h'.objs.size = some (seqObj "list" vs.toArray 0) := Heap.get?_push_size _ rfl
  have hsz : s.heap.get? h'.objs.size = none := by
    cases e : s.heap.get? h'.objs.size with
    | none => rfl
    | some o => exact absurd (Heap.lt_size (hk _ _ e)) (Nat.lt_irrefl _)
  refine wpAny_bind (wpAny_holding (wpAny_call_entry (s := { s with heap := h'.push (seqObj "list" vs.toArray 0) }) slot_list_sort ⟨_, hoL, rfl⟩ entry_list_sort (list_sort_tree hoL hI h64 fun out ns' a1 a2 a3 => ⟨_, rfl, ?_⟩) (args_list_sort _)))
  obtain ⟨c, hc2⟩ := sortedHeap_at (vs := vs) (out := out) hoL
  refine wpAny_pure ⟨_, rfl, hQ _ h'.objs.size out c ns' (fun b u e => ?_) rfl rfl hsz (fun H x => (x.kept hk).fresh (Nat.le_refl _)) hc2 a1 a2 a3⟩
  have q := hk b u e
  have hlt := Heap.lt_size q
  show (sortedHeap (h'.push (seqObj "list" vs.toArray 0)) h'.objs.size vs out).get? b = some u
  rw [sortedHeap_old (Nat.ne_of_lt hlt) (by rw [size_push']; exact Nat.lt_succ_of_lt hlt)]
  exact Heap.get?_push_of_some _ q
end
section
variable {X : Cx}
/-- sorted(a tuple of ints) -/
def rSortedTi (K : PySem.W.Frag) : List V → Hp → VK → Prop := fun vs H Q => ∃ (a : Addr) (ns : List Int), vs = [V.ref a] ∧ SqT K H a (ns.map V.int) ∧ ns.length < 64 ∧ ∀ (ns' : List Int) (p : Addr), ns'.Perm ns → ns'.Pairwise (· ≤ ·) → H p = none → Q (.ref p) (upd H p (.lst (ns'.map V.int)))
theorem call_sortedTi (hc : X.calm = true) : CallR X (.builtin "sorted") (rSortedTi X.K) := by
  intro pins s σ H vs us Q I r h
  obtain ⟨a, ns, rfl, hs, h64, q⟩ := h
  obtain ⟨its, rv, pl, hz⟩ := I.tuple hs
  rw [Vals.ref1 r]
  have hi := rv.ints
  have hln := hi.length
  refine sorted_tupI (P := X.prog) (w := X.w) (ns := ns) (show s.heap.IsTuple a its.toArray from pl) (by simpa using hi) (by simpa using (by rw [hln]; exact h64 : its.length < 64)) fun s' p out c ns' k g o hp hf hg h1 h2 h3 => ?_
  have hn : H p = none := hf H I.hok
  have hlen : (ns'.map V.int).length ≤ sizeLine := by rw [List.length_map, h2.length_eq]; exact small64 h64
  have J := I.call' (s' := s') (ch := []) o (Un.laidN k hp hn) (I.hok.laidN (o := .lst (ns'.map V.int)) k hn ⟨hlen, out.toList, c, vals_of_ints h1, hg⟩) (by rw [g]; exact I.bare) (fun _ z => nomatch z)
  exact ⟨.ref p, _, J, rfl, q ns' p h2 h3 hn⟩
end
end G9
set_option Elab.async false
set_option linter.all false
set_option maxRecDepth 100000
set_option maxHeartbeats 4000000
namespace G9
open PySem PySem.Spec PyProof.Rows L2 GxR
section
variable {X : Cx} {pins : List (Addr × Obj)} {σ : L2.St} {H : Hp} {s : Shared}
theorem gen2i {c P : Addr} {elt iter : Expr} {ifs : List Expr} {xa xb : Str} {pa pb pt gpos : Pos} {kt : Nat} {scope : Scope} {t : TS2} {tt : GB} {te : GV} {k : Nat} {Q' : Value → Shared → Prop} {R : List V → Hp → Prop}
    (hr : Room k X.A) (TB : TabB X.base X.mg c P) (hcode : X.env.code = .ref c) (S : GenN X.env.scope scope [xa, xb]) (hi : GS2 X iter t) (hts : GTs X P scope [xa, xb] ifs tt) (hel : GE X P scope [xa, xb] elt te)
    (hab : xa ≠ xb) (hs : ∀ v, genFold iter X.env v = pure v) (I : Inv X pins σ H s)
    (h : t σ H fun vs H1 => TabG H1 P ∧ ∃ (pz : Nat → Bool) (F : Nat → V), (∀ i x, vs[i]? = some x → tt [x.1, x.2] σ H1 (pz i)) ∧ (∀ i x, vs[i]? = some x → pz i = true → te [x.1, x.2] σ H1 (F i)) ∧ R (((List.range vs.length).filter pz).map F) H1)
    (hQ : ∀ L H1 g s5, R L H1 → Ready X pins σ H1 P L g s5 → Q' (.ref g) s5) :
    wpAny (model X.prog X.w) X.A (eval (.GeneratorExp elt [⟨.Tuple [.Name xa pa, .Name xb pb] kt pt, iter, ifs, 0⟩] scope gpos) X.env) Q' X.xe s := by
  refine wpAny_GeneratorExp_walksQT hr.hd S.co (closure_ok (S.fr I)) S.cell S.dot (S.loc xa List.mem_cons_self) (S.loc xb (List.mem_cons_of_mem _ List.mem_cons_self)) hab S.kind (by have := hr.dp; omega) ?_ hs
  refine thn (hi.run pins s σ H _ I h) fun xv s1 h1 => thn h1 fun it s2 h2 => ?_
  obtain ⟨s0, H1, vs, I1, ⟨T, pz, F, ht, he, q⟩, hg, Ia, fp, wr, St, Mid, rfl, W, hst, hfp, hwr⟩ := h2
  have B := gen_behind (Wk := fun code s₄ => ∃ Ia' fp wr n₀ Pf St₀ Mid pz' F', Value.ref Ia = .ref Ia' ∧ (∀ A' : Around, A'.handled = none → WalksU X.prog X.w A' Ia' fp wr n₀ Pf St₀ Mid) ∧ (∀ i vals, Pf i vals → ∃ va vb, vals = #[va, vb]) ∧ St₀ 0 s₄.heap ∧ (∀ b ∈ fp, b < s₄.heap.objs.size) ∧ s₄.heap.NoLimit ∧ cStatics ∉ wr ∧
          (∀ href : Heap, (∀ b o, s₄.heap.get? b = some o → href.get? b = some o) →
            QuietGenT X.prog X.w (genEnv scope (cloFrom X.env.cells scope.names []) s₄.heap.objs.size code builtinsNs X.env) xa xb ifs elt (List.range s₄.heap.objs.size) wr Pf pz' F' href) ∧
          (∀ a h₅ tk gs, gs.bare = true → s₄.heap.objs.size < a → h₅.objs.size = a + 1 → (∀ b o, s₄.heap.get? b = some o → h₅.get? b = some o) →
            WalksS X.prog X.w X.A.in4 a (a :: s₄.heap.objs.size :: List.range s₄.heap.objs.size) (s₄.heap.objs.size :: wr) (GenOnlyQ s₄.gens.size) (passing pz' n₀ 0).length
              (fun j y => ∃ i, (passing pz' n₀ 0)[j]? = some i ∧ F' i y) (GenAt X.prog X.w X.A.in4 a s₄.gens.size s₄.heap.objs.size (List.range s₄.heap.objs.size) wr pz' n₀ F') →
            GenAt X.prog X.w X.A.in4 a s₄.gens.size s₄.heap.objs.size (List.range s₄.heap.objs.size) wr pz' n₀ F' 0 { s₄ with gens := s₄.gens.push gs, toks := tk, heap := h₅ } →
            Q' (.ref a) { s₄ with gens := s₄.gens.push gs, toks := tk, heap := h₅ })) (gpos := gpos) hr TB hcode S I1 hg T hwr ?_
  · refine ⟨B.1, thn B.2 fun code s₃ h3 => thn h3 fun bi s₄ ⟨e, h4⟩ => ?_⟩
    subst e
    exact h4
  intro code h3 tk hx hsz lim hcw kp3 done
  have hgens : s2.gens = s0.gens := by obtain ⟨h', tk', e, _⟩ := hg; rw [e]
  have hPn : ∀ b ∈ fp, b ≠ P := fun b hb z => by
    obtain ⟨o, ho, hc⟩ := hfp b hb
    obtain ⟨h', tk', e, k', _⟩ := hg
    obtain ⟨ps, hP, _⟩ := T
    have e1 : s2.heap.get? P = some { cls := .none, data := .fields ps } := by
      rw [e]
      exact k' _ _ (I1.hok P _ hP)
    rw [z, e1] at ho
    cases ho
    exact hc rfl
  have gf : Gf X scope (genEnv scope (cloFrom X.env.cells scope.names []) h3.objs.size code builtinsNs X.env) := ⟨rfl, S.kind, rfl, rfl, fun y c hf hc => clo_lookup hf hc⟩
  refine ⟨Ia, fp, wr, vs.length, _, St, Mid, pz, fun i y => RelV (F i) y, rfl, W, (fun i vals hv => by obtain ⟨va, vb, _, _, e, _⟩ := hv; exact ⟨va, vb, e⟩), (W X.A hr.hd).frame _ _ _ hst fun b hb o e => hx b o (hPn b hb) e, fun b hb => ?_, lim, hcw, fun href hhref => ?_, ?_⟩
  · obtain ⟨o, ho, _⟩ := hfp b hb
    exact Heap.lt_size (hx b o (hPn b hb) ho)
  · have kpOf : ∀ s₂ : Shared, (∀ b ∈ List.range h3.objs.size, b ∉ wr → ∀ o, href.get? b = some o → s₂.heap.get? b = some o) → Kp P s0.heap s₂.heap := fun s₂ hk b o hb e => by
      have e3 := kp3 b o hb e
      refine hk b (List.mem_range.mpr (Heap.lt_size e3)) (fun z => ?_) o (hhref b o e3)
      exact Nat.lt_irrefl _ (Nat.lt_of_lt_of_le (Heap.lt_size e) (hwr b z))
    refine ⟨fun A' E' i va vb s₂ m₂ hA hPv hn hm hmb hk => ?_, fun A' E' i va vb s₂ m₂ hA hPv hp hn hm hmb hk => ?_⟩
    · obtain ⟨va', vb', ya, yb, ev, hy, rva, rvb⟩ := hPv
      obtain ⟨e1, e2⟩ : va = va' ∧ vb = vb' := by simpa using congrArg Array.toList ev
      subst e1 e2
      exact hts.run pins σ H1 s0 I1 T [ya, yb] [va, vb] (pz i) (.cons rva (.cons rvb .nil)) rfl (ht i (ya, yb) hy) _ A' E' s₂ m₂ gf hn (fun p hp => by
        rcases List.mem_cons.mp hp with z | z
        · rw [z]; exact hm
        · rcases List.mem_cons.mp z with z | z
          · rw [z]; exact hmb
          · cases z) (kpOf s₂ hk)
    · obtain ⟨va', vb', ya, yb, ev, hy, rva, rvb⟩ := hPv
      obtain ⟨e1, e2⟩ : va = va' ∧ vb = vb' := by simpa using congrArg Array.toList ev
      subst e1 e2
      have hp' : pz i = true := hp
      refine wpAny_mono (hel.run pins σ H1 s0 I1 T [ya, yb] [va, vb] (F i) (.cons rva (.cons rvb .nil)) rfl (he i (ya, yb) hy hp') _ A' E' s₂ m₂ gf hn (fun p hp => by
        rcases List.mem_cons.mp hp with z | z
        · rw [z]; exact hm
        · rcases List.mem_cons.mp z with z | z
          · rw [z]; exact hmb
          · cases z) (kpOf s₂ hk)) (fun u s₃ r => ⟨r.1, r.2⟩) fun _ _ e => e
  · intro a h5 tk5 gs hgb hag hsz5 hk5 W5 hat
    have epass : passing pz vs.length 0 = (List.range vs.length).filter pz := by simp [passing]
    have hlen : (passing pz vs.length 0).length = (((List.range vs.length).filter pz).map F).length := by rw [epass, List.length_map]
    refine hQ _ H1 a _ q ⟨_, _, _, _, _, hlen ▸ W5, hat, ?_, fun i s' st => st.1.typeIs, ?_, List.mem_cons_self, fun s' hm => ?_⟩
    · intro j y hy
      obtain ⟨i, hij, r⟩ := hy
      refine ⟨F i, ?_, r⟩
      rw [epass] at hij
      rw [List.getElem?_map, hij]
      rfl
    · intro b hb
      show b < h5.objs.size
      rw [hsz5]
      rcases List.mem_cons.mp hb with rfl | hb
      · exact Nat.lt_succ_self _
      · rcases List.mem_cons.mp hb with rfl | hb
        · exact Nat.lt_succ_of_lt hag
        · exact Nat.lt_succ_of_lt (Nat.lt_trans (List.mem_range.mp hb) hag)
    · refine done h5 gs #[] tk5 s' hgb hk5 ?_
      have hm' := hm
      simp only [hgens] at hm' ⊢
      exact hm'
end

def tGen2i (P : Addr) (t : TS2) (tt : GB) (te : GV) (R : L2.St → List V → Hp → VK → Prop) : TE := fun σ H Q => t σ H fun vs H1 => TabG H1 P ∧ ∃ (pz : Nat → Bool) (F : Nat → V), (∀ i x, vs[i]? = some x → tt [x.1, x.2] σ H1 (pz i)) ∧ (∀ i x, vs[i]? = some x → pz i = true → te [x.1, x.2] σ H1 (F i)) ∧ R σ (((List.range vs.length).filter pz).map F) H1 Q
section
variable {X : Cx}
variable {c P : Addr} {elt iter : Expr} {ifs : List Expr} {x xa xb : Str} {px pa pb pt p pos gpos : Pos} {kt : Nat} {scope : Scope} {t1 : TS1} {t2 : TS2} {tt : GB} {te : GV} {k : Nat} {f : Str} {R : Addr → L2.St → List V → Hp → VK → Prop}
theorem pe_g2Ti {T : String} (E : Eats X (.type T) R) (hr : Room k X.A) (hg : Gl X f) (hm : X.mg f = none) (hb : bootBuiltins f = some (.type T)) (TB : TabB X.base X.mg c P) (hcode : X.env.code = .ref c) (S : GenN X.env.scope scope [xa, xb]) (hi : GS2 X iter t2) (hts : GTs X P scope [xa, xb] ifs tt) (hel : GE X P scope [xa, xb] elt te) (hab : xa ≠ xb)
    (hs : ∀ v, genFold iter X.env v = pure v := by intro _; rfl) (hn : f ≠ "__name__" := by decide +kernel) (hd : (f == ("__debug__" : Str)) = false := by decide +kernel)
    (he : starEach [.GeneratorExp elt [⟨.Tuple [.Name xa pa, .Name xb pb] kt pt, iter, ifs, 0⟩] scope gpos] X.env = (false, eval (.GeneratorExp elt [⟨.Tuple [.Name xa pa, .Name xb pb] kt pt, iter, ifs, 0⟩] scope gpos) X.env) :: starEach [] X.env := by rfl) :
    PE X (.Call (.Name f p) [.GeneratorExp elt [⟨.Tuple [.Name xa pa, .Name xb pb] kt pt, iter, ifs, 0⟩] scope gpos] [] pos) (tGen2i P t2 tt te (R P)) := by
  refine ⟨fun pins s σ H Q I h => ?_⟩
  refine Call_ (ld_blt (hn := hn) (hd := hd) I hg hm hb (PyProof.Rows.callWith_type1 ?_ he (by rfl)))
  rw [he]
  show wpAny _ _ (spliced ((false, eval (.GeneratorExp elt [⟨.Tuple [.Name xa pa, .Name xb pb] kt pt, iter, ifs, 0⟩] scope gpos) X.env) :: backTo pos (starEach [] X.env))) _ _ s
  refine Calls.spliced_cons (gen2i (R := fun L H1 => R P σ L H1 Q) hr TB hcode S hi hts hel hab hs I h fun L H1 g s5 hR hG => Calls.spliced_nil (E pins σ H1 P L g s5 Q hG hR))
theorem pe_g2Bi {T : String} (E : Eats X (.builtin T) R) (hr : Room k X.A) (hg : Gl X f) (hm : X.mg f = none) (hb : bootBuiltins f = some (.builtin T)) (TB : TabB X.base X.mg c P) (hcode : X.env.code = .ref c) (S : GenN X.env.scope scope [xa, xb]) (hi : GS2 X iter t2) (hts : GTs X P scope [xa, xb] ifs tt) (hel : GE X P scope [xa, xb] elt te) (hab : xa ≠ xb)
    (hs : ∀ v, genFold iter X.env v = pure v := by intro _; rfl) (hn : f ≠ "__name__" := by decide +kernel) (hd : (f == ("__debug__" : Str)) = false := by decide +kernel)
    (he : starEach [.GeneratorExp elt [⟨.Tuple [.Name xa pa, .Name xb pb] kt pt, iter, ifs, 0⟩] scope gpos] X.env = (false, eval (.GeneratorExp elt [⟨.Tuple [.Name xa pa, .Name xb pb] kt pt, iter, ifs, 0⟩] scope gpos) X.env) :: starEach [] X.env := by rfl) :
    PE X (.Call (.Name f p) [.GeneratorExp elt [⟨.Tuple [.Name xa pa, .Name xb pb] kt pt, iter, ifs, 0⟩] scope gpos] [] pos) (tGen2i P t2 tt te (R P)) := by
  refine ⟨fun pins s σ H Q I h => ?_⟩
  refine Call_ (ld_blt (hn := hn) (hd := hd) I hg hm hb (PyProof.Rows.callWith_builtin1 ?_ he (by rfl)))
  rw [he]
  show wpAny _ _ (spliced ((false, eval (.GeneratorExp elt [⟨.Tuple [.Name xa pa, .Name xb pb] kt pt, iter, ifs, 0⟩] scope gpos) X.env) :: backTo pos (starEach [] X.env))) _ _ s
  refine Calls.spliced_cons (gen2i (R := fun L H1 => R P σ L H1 Q) hr TB hcode S hi hts hel hab hs I h fun L H1 g s5 hR hG => Calls.spliced_nil (E pins σ H1 P L g s5 Q hG hR))
end
end G9
set_option Elab.async false
set_option linter.all false
set_option maxRecDepth 100000
set_option maxHeartbeats 4000000
namespace PL
open PySem L2 G9 GxR

/-! ### values, answers -/
abbrev D := PyData
structure Ex where
  cls : Str
  args : List D
/-- what a run gives: a value, nothing that is known, an error, or a draw and what follows it -/
inductive T (α : Type) : Type where
  | ok (a : α)
  | bad
  | exc (e : Ex)
  | draw (L : Int) (k : Int → T α)
namespace T
variable {α β γ : Type}
def bind : T α → (α → T β) → T β
  | ok a, f => f a
  | bad, _ => bad
  | exc e, _ => exc e
  | draw L k, f => draw L fun r => bind (k r) f
@[simp] theorem ok_bind (a : α) (f : α → T β) : (ok a).bind f = f a := rfl
@[simp] theorem bad_bind (f : α → T β) : (bad : T α).bind f = bad := rfl
@[simp] theorem exc_bind (e : Ex) (f : α → T β) : (exc e : T α).bind f = exc e := rfl
@[simp] theorem draw_bind (L : Int) (k : Int → T α) (f : α → T β) : (draw L k).bind f = draw L fun r => (k r).bind f := rfl
theorem bind_assoc : ∀ (t : T α) (f : α → T β) (g : β → T γ), (t.bind f).bind g = t.bind fun a => (f a).bind g
  | ok _, _, _ => rfl
  | bad, _, _ => rfl
  | exc _, _, _ => rfl
  | draw L k, f, g => by simp only [draw_bind]; congr 1; funext r; exact bind_assoc (k r) f g
theorem bind_ok : ∀ (t : T α), t.bind ok = t
  | ok _ => rfl
  | bad => rfl
  | exc _ => rfl
  | draw L k => by simp only [draw_bind]; congr 1; funext r; exact bind_ok (k r)
def cap : Nat := 1000000
def wp : T α → Nat → (α → Nat → Prop) → (Ex → Nat → Prop) → Prop
  | ok a, n, Q, _ => Q a n
  | bad, _, _, _ => False
  | exc e, n, _, E => E e n
  | draw L k, n, Q, E => n < cap ∧ 1 ≤ L ∧ L ≤ 1000000 ∧ ∀ r, 0 ≤ r → r < L → wp (k r) (n + 1) Q E
theorem wp_bind : ∀ {t : T α} {f : α → T β} {n : Nat} {Q : β → Nat → Prop} {E : Ex → Nat → Prop}, (t.bind f).wp n Q E ↔ t.wp n (fun a m => (f a).wp m Q E) E
  | ok _, _, _, _, _ => Iff.rfl
  | bad, _, _, _, _ => Iff.rfl
  | exc _, _, _, _, _ => Iff.rfl
  | draw L k, f, n, Q, E => by
    simp only [draw_bind, wp]
    exact and_congr_right fun _ => and_congr_right fun _ => and_congr_right fun _ => forall_congr' fun r => imp_congr_right fun _ => imp_congr_right fun _ => wp_bind
theorem wp_mono : ∀ {t : T α} {n : Nat} {Q Q' : α → Nat → Prop} {E E' : Ex → Nat → Prop}, t.wp n Q E → (∀ a m, Q a m → Q' a m) → (∀ e m, E e m → E' e m) → t.wp n Q' E'
  | ok _, _, _, _, _, _, h, q, _ => q _ _ h
  | bad, _, _, _, _, _, h, _, _ => h.elim
  | exc _, _, _, _, _, _, h, _, x => x _ _ h
  | draw L k, n, Q, Q', E, E', h, q, x => ⟨h.1, h.2.1, h.2.2.1, fun r a b => wp_mono (h.2.2.2 r a b) q x⟩
end T
/-- a draw -/
def drw (L : Int) : T D := .draw L fun r => .ok (.int r)

/-! ### where the values stand -/
def stD (c l : Addr) (n : Int) : List (Key × V) := [((.inr "cells" : Key), .ref c), (.inr "lefts", .ref l), (.inr "at", .int n)]
structure StAt (K : PySem.W.Frag) (H : Hp) (d c l : Addr) (n : Nat) : Prop where
  ex : ∃ (cs ls : List Int) (i : Int), H d = some (.dK (stD c l i)) ∧ H c = some (.lst (cs.map V.int)) ∧ H l = some (.lst (ls.map V.int)) ∧ cs.length = ls.length ∧ 0 < cs.length ∧ cs.length ≤ 63 ∧ 0 ≤ i ∧ i ≤ n
  cl : c ≠ l
  cd : c ≠ d
theorem StAt.mono {K H d c l n m} (S : StAt K H d c l n) (h : n ≤ m) : StAt K H d c l m := by
  obtain ⟨⟨cs, ls, i, h1, h2, h3, h4, h5, h6, h7, h8⟩, a, b⟩ := S
  exact ⟨⟨cs, ls, i, h1, h2, h3, h4, h5, h6, h7, by omega⟩, a, b⟩
theorem StAt.ext {K H H' d c l n} (S : StAt K H d c l n) (x : Ext [] H H') : StAt K H' d c l n := by
  obtain ⟨⟨cs, ls, i, h1, h2, h3, r⟩, a, b⟩ := S
  exact ⟨⟨cs, ls, i, x.own (by simp) h1 (fun _ z => by cases z), x.own (by simp) h2 (fun _ z => by cases z), x.own (by simp) h3 (fun _ z => by cases z), r⟩, a, b⟩
structure G where
  K : PySem.W.Frag
  w : World
  Ps : List Addr
  st : Option (Addr × Addr × Addr)
  ad : List Addr
  ow : List (Nat × Addr)
  xe : XK
  xr : Value → Option Addr → Hp → Ex → Prop
def G.sv (g : G) : List Addr := match g.st with
  | none => []
  | some (d, _, l) => [d, l]
def G.s3 (g : G) : List Addr := match g.st with
  | none => []
  | some (d, c, l) => [d, c, l]
theorem G.of_s3 {g : G} {a : Addr} (h : a ∉ g.s3) : a ∉ g.sv := by
  unfold G.s3 at h
  unfold G.sv
  cases e : g.st with
  | none => simp
  | some q =>
    obtain ⟨d, c, l⟩ := q
    rw [e] at h
    simp only [List.mem_cons, List.not_mem_nil, or_false, not_or] at h ⊢
    exact ⟨h.1, h.2.2⟩
def G.vol (g : G) : List Addr := g.sv ++ g.ad
def Sta (g : G) (H : Hp) (n : Nat) : Prop := match g.st with
  | none => True
  | some (d, c, l) => StAt g.K H d c l n
/-- the draws' state; the lists that are being made -/
structure Stt (g : G) (H : Hp) (n : Nat) : Prop where
  sta : Sta g H n
  ad : ∀ a ∈ g.ad, a ∉ g.s3 ∧ ∃ o, H a = some o ∧ NoTbl o ∧ ¬ Fix o
  ow : ∀ p ∈ g.ow, p.2 ∈ g.ad
  one : ∀ p ∈ g.ow, ∀ q ∈ g.ow, p.2 = q.2 → p.1 = q.1
theorem Stt.ext {g : G} {H H' : Hp} {n : Nat} (s : Stt g H n) (x : Ext [] H H') : Stt g H' n := by
  refine ⟨?_, fun a h => ⟨(s.ad a h).1, ?_⟩, s.ow, s.one⟩
  · have s := s.sta
    unfold Sta at *
    cases e : g.st with
    | none => trivial
    | some p => obtain ⟨d, c, l⟩ := p; rw [e] at s; exact StAt.ext s x
  · obtain ⟨o, q, n, f⟩ := (s.ad a h).2
    exact ⟨o, x.own (by simp) q n, n, f⟩
/-- a new address is none of those that may change -/
theorem Stt.freshS {g : G} {H : Hp} {n : Nat} (s : Stt g H n) {p : Addr} (h : H p = none) : p ∉ g.s3 := by
  have s := s.sta
  unfold Sta at s
  unfold G.s3
  cases e : g.st with
  | none => simp
  | some q =>
    obtain ⟨d, c, l⟩ := q
    rw [e] at s
    obtain ⟨⟨cs, ls, i, h1, h2, h3, r⟩, a, b⟩ := s
    simp only [List.mem_cons, List.not_mem_nil, or_false, not_or]
    exact ⟨fun z => (by rw [z, h1] at h; cases h), fun z => (by rw [z, h2] at h; cases h), fun z => (by rw [z, h3] at h; cases h)⟩
theorem Stt.fresh {g : G} {H : Hp} {n : Nat} (s : Stt g H n) {p : Addr} (h : H p = none) : p ∉ g.vol := by
  unfold G.vol
  rw [List.mem_append, not_or]
  exact ⟨G.of_s3 (s.freshS h), fun z => (by obtain ⟨o, q, _⟩ := (s.ad p z).2; rw [h] at q; cases q)⟩
mutual
inductive Dq (g : G) (H : Hp) : V → D → Prop
  | non : Dq g H .non .none
  | bl (b : Bool) : Dq g H (.bl b) (.bool b)
  | int (i : Int) : Dq g H (.int i) (.int i)
  | str (x : Str) : Dq g H (.str x) (.str x)
  | lst {a : Addr} {xs : List V} {ds : List D} : a ∉ g.vol → H a = some (.lst xs) → ds.length ≤ sizeLine → Dqs g H xs ds → Dq g H (.ref a) (.list ds)
  | tup {a : Addr} {xs : List V} {ds : List D} : SqT g.K H a xs → ds.length ≤ sizeLine → Dqs g H xs ds → Dq g H (.ref a) (.tuple ds)
  | st {d c l : Addr} : g.st = some (d, c, l) → Dq g H (.ref d) (.dict [])
inductive Dqs (g : G) (H : Hp) : List V → List D → Prop
  | nil : Dqs g H [] []
  | cons {v : V} {vs : List V} {d : D} {ds : List D} : Dq g H v d → Dqs g H vs ds → Dqs g H (v :: vs) (d :: ds)
end
section
variable {g : G} {H H' : Hp}
mutual
theorem Dq.extv (x : Ext g.vol H H') : ∀ (d : D) (v : V), Dq g H v d → Dq g H' v d
  | .none, _, h => by cases h; exact .non
  | .bool b, _, h => by cases h; exact .bl b
  | .int i, _, h => by cases h; exact .int i
  | .str s, _, h => by cases h; exact .str s
  | .list ds, _, h => by
    cases h with
    | lst n q l a => exact .lst n (x.own n q (fun _ z => by cases z)) l (Dqs.extv x ds _ a)
  | .tuple ds, _, h => by
    cases h with
    | tup q l a => exact .tup (x.tup q) l (Dqs.extv x ds _ a)
  | .dict kvs, _, h => by
    cases h with
    | st e => exact .st e
theorem Dqs.extv (x : Ext g.vol H H') : ∀ (ds : List D) (vs : List V), Dqs g H vs ds → Dqs g H' vs ds
  | [], _, h => by cases h; exact .nil
  | d :: ds, _, h => by
    cases h with
    | cons a b => exact .cons (Dq.extv x d _ a) (Dqs.extv x ds _ b)
end
theorem Dq.ext {v : V} {d : D} (h : Dq g H v d) (x : Ext g.sv H H') : Dq g H' v d := Dq.extv (x.more fun b z => List.mem_append_left _ z) d v h
theorem Dqs.ext {v : List V} {d : List D} (h : Dqs g H v d) (x : Ext g.sv H H') : Dqs g H' v d := Dqs.extv (x.more fun b z => List.mem_append_left _ z) d v h
mutual
/-- no state in it -/
def pl : D → Bool
  | .none | .bool _ | .int _ | .str _ => true
  | .list xs | .tuple xs => pls xs
  | .dict _ => false
def pls : List D → Bool
  | [] => true
  | x :: xs => pl x && pls xs
end
mutual
theorem Dq.dp : ∀ (d : D) (v : V), pl d = true → Dq g H v d → Dp g.K H v d
  | .none, _, _, h => by cases h; exact .non
  | .bool b, _, _, h => by cases h; exact .bl b
  | .int i, _, _, h => by cases h; exact .int i
  | .str s, _, _, h => by cases h; exact .str s
  | .list ds, _, p, h => by
    cases h with
    | lst n q l a => exact .lst (.of q) (Dqs.dp ds _ (by simpa [pl] using p) a)
  | .tuple ds, _, p, h => by
    cases h with
    | tup q l a => exact .tup q (Dqs.dp ds _ (by simpa [pl] using p) a)
  | .dict kvs, _, p, _ => by simp [pl] at p
theorem Dqs.dp : ∀ (ds : List D) (vs : List V), pls ds = true → Dqs g H vs ds → DpAll g.K H vs ds
  | [], _, _, h => by cases h; exact .nil
  | d :: ds, _, p, h => by
    cases h with
    | cons a b =>
      simp only [pls, Bool.and_eq_true] at p
      exact .cons (Dq.dp d _ p.1 a) (Dqs.dp ds _ p.2 b)
end
theorem Dqs.len : ∀ {vs : List V} {ds : List D}, Dqs g H vs ds → vs.length = ds.length
  | _, [], h => by cases h; rfl
  | _, d :: ds, h => by
    cases h with
    | cons a b => simp [Dqs.len b]
theorem Dqs.get : ∀ {vs : List V} {ds : List D} {i : Nat} {d : D}, Dqs g H vs ds → ds[i]? = some d → ∃ v, vs[i]? = some v ∧ Dq g H v d
  | _, [], _, _, h, e => by simp at e
  | _, d :: ds, 0, _, h, e => by
    cases h with
    | cons a b => simp at e; subst e; exact ⟨_, rfl, a⟩
  | _, d :: ds, i + 1, _, h, e => by
    cases h with
    | cons a b => simpa using Dqs.get b (by simpa using e)
theorem Dqs.app : ∀ {vs ws : List V} {ds es : List D}, Dqs g H vs ds → Dqs g H ws es → Dqs g H (vs ++ ws) (ds ++ es)
  | _, _, [], _, h, k => by cases h; exact k
  | _, _, d :: ds, _, h, k => by
    cases h with
    | cons a b => exact .cons a (b.app k)
theorem Dqs.drop : ∀ {vs : List V} {ds : List D} (i : Nat), Dqs g H vs ds → Dqs g H (vs.drop i) (ds.drop i)
  | _, _, 0, h => h
  | _, [], _ + 1, h => by cases h; exact .nil
  | _, d :: ds, i + 1, h => by
    cases h with
    | cons a b => exact b.drop i
theorem Dqs.take : ∀ {vs : List V} {ds : List D} (i : Nat), Dqs g H vs ds → Dqs g H (vs.take i) (ds.take i)
  | _, _, 0, h => .nil
  | _, [], _ + 1, h => by cases h; exact .nil
  | _, d :: ds, i + 1, h => by
    cases h with
    | cons a b => exact .cons a (b.take i)
theorem Dqs.rev : ∀ {vs : List V} {ds : List D}, Dqs g H vs ds → Dqs g H vs.reverse ds.reverse
  | _, [], h => by cases h; exact .nil
  | _, d :: ds, h => by
    cases h with
    | cons a b => rw [List.reverse_cons, List.reverse_cons]; exact b.rev.app (.cons a .nil)
theorem Dqs.of_get : ∀ {vs : List V} {ds : List D}, vs.length = ds.length → (∀ (i : Nat) (v : V) (d : D), vs[i]? = some v → ds[i]? = some d → Dq g H v d) → Dqs g H vs ds
  | [], [], _, _ => .nil
  | v :: vs, d :: ds, e, h => .cons (h 0 v d rfl rfl) (Dqs.of_get (by simpa using e) fun i v d a b => h (i + 1) v d (by simpa using a) (by simpa using b))
  | [], _ :: _, e, _ => by simp at e
  | _ :: _, [], e, _ => by simp at e
theorem Dqs.ints : ∀ {vs : List V} {ns : List Int}, Dqs g H vs (ns.map PyData.int) → vs = ns.map V.int
  | _, [], h => by cases h; rfl
  | _, n :: ns, h => by
    cases h with
    | cons a b => cases a; rw [Dqs.ints b]; rfl
theorem Dqs.mk_ints : ∀ (ns : List Int), Dqs g H (ns.map V.int) (ns.map PyData.int)
  | [] => .nil
  | n :: ns => .cons (.int n) (Dqs.mk_ints ns)
end

/-! ### a list that is being made, at a -/
def G.add (g : G) (a : Addr) (o : Option Nat := none) : G := { g with ad := a :: g.ad, ow := match o with | none => g.ow | some i => (i, a) :: g.ow }
theorem G.vol_add {g : G} {a b : Addr} {o : Option Nat} : b ∉ (g.add a o).vol ↔ b ∉ g.vol ∧ b ≠ a := by
  have : (g.add a o).sv = g.sv := rfl
  simp only [G.vol, this, G.add, List.mem_append, List.mem_cons, not_or]
  exact ⟨fun h => ⟨⟨h.1, h.2.2⟩, h.2.1⟩, fun h => ⟨h.1.1, h.2, h.1.2⟩⟩
section
variable {g : G} {H : Hp} {a : Addr} {o : Option Nat}
mutual
theorem Dq.add (ha : H a = none) : ∀ (d : D) (v : V), Dq g H v d → Dq (g.add a o) H v d
  | .none, _, h => by cases h; exact .non
  | .bool b, _, h => by cases h; exact .bl b
  | .int i, _, h => by cases h; exact .int i
  | .str s, _, h => by cases h; exact .str s
  | .list ds, _, h => by
    cases h with
    | lst n q l b => exact .lst (G.vol_add.mpr ⟨n, fun z => by rw [z, ha] at q; cases q⟩) q l (Dqs.add ha ds _ b)
  | .tuple ds, _, h => by
    cases h with
    | tup q l b => exact .tup q l (Dqs.add ha ds _ b)
  | .dict kvs, _, h => by
    cases h with
    | st e => exact .st e
theorem Dqs.add (ha : H a = none) : ∀ (ds : List D) (vs : List V), Dqs g H vs ds → Dqs (g.add a o) H vs ds
  | [], _, h => by cases h; exact .nil
  | d :: ds, _, h => by
    cases h with
    | cons x y => exact .cons (Dq.add ha d _ x) (Dqs.add ha ds _ y)
end
mutual
theorem Dq.sub : ∀ (d : D) (v : V), Dq (g.add a o) H v d → Dq g H v d
  | .none, _, h => by cases h; exact .non
  | .bool b, _, h => by cases h; exact .bl b
  | .int i, _, h => by cases h; exact .int i
  | .str s, _, h => by cases h; exact .str s
  | .list ds, _, h => by
    cases h with
    | lst n q l b => exact .lst (G.vol_add.mp n).1 q l (Dqs.sub ds _ b)
  | .tuple ds, _, h => by
    cases h with
    | tup q l b => exact .tup q l (Dqs.sub ds _ b)
  | .dict kvs, _, h => by
    cases h with
    | st e => exact .st e
theorem Dqs.sub : ∀ (ds : List D) (vs : List V), Dqs (g.add a o) H vs ds → Dqs g H vs ds
  | [], _, h => by cases h; exact .nil
  | d :: ds, _, h => by
    cases h with
    | cons x y => exact .cons (Dq.sub d _ x) (Dqs.sub ds _ y)
end
theorem G.in_add {p : Nat × Addr} (h : p ∈ g.ow) : p ∈ (g.add a o).ow := by
  cases o with
  | none => exact h
  | some i => exact List.mem_cons_of_mem _ h
theorem Stt.sub {n : Nat} (s : Stt (g.add a o) H n) (hw : ∀ p ∈ g.ow, p.2 ∈ g.ad) : Stt g H n := ⟨s.sta, fun b h => s.ad b (List.mem_cons_of_mem _ h), hw, fun p hp q hq e => s.one p (G.in_add hp) q (G.in_add hq) e⟩
theorem Stt.add {n : Nat} (s : Stt g H n) (ha : a ∉ g.s3) (hv : a ∉ g.vol) {u : HO} (h : H a = some u) (hn : NoTbl u) (hf : ¬ Fix u) : Stt (g.add a o) H n := ⟨s.sta, fun b z => by
  rcases List.mem_cons.mp z with rfl | z
  · exact ⟨ha, u, h, hn, hf⟩
  · exact s.ad b z, fun p z => by
  cases o with
  | none => exact List.mem_cons_of_mem _ (s.ow p z)
  | some i =>
    rcases List.mem_cons.mp z with rfl | z
    · exact List.mem_cons_self
    · exact List.mem_cons_of_mem _ (s.ow p z), fun p hp q hq e => by
  cases o with
  | none => exact s.one p hp q hq e
  | some i =>
    have nv : ∀ r ∈ g.ow, r.2 ≠ a := fun r hr z => hv (List.mem_append_right _ (z ▸ s.ow r hr))
    rcases List.mem_cons.mp hp with rfl | hp
    · rcases List.mem_cons.mp hq with rfl | hq
      · rfl
      · exact absurd e.symm (nv q hq)
    · rcases List.mem_cons.mp hq with rfl | hq
      · exact absurd e (nv p hp)
      · exact s.one p hp q hq e⟩
end
/-! ### lists and sets that a def itself changes -/
def ownL (ds : List D) : D := .dict [(.none, .list ds)]
def ownS (ns : List Int) : D := .dict [(.none, .tuple (ns.map .int))]
def isOwn : D → Bool
  | .dict (_ :: _) => true
  | _ => false
theorem setO_nt {w : World} {a : Addr} {S : Int → Bool} {n : Nat} : NoTbl (SetO w a S n) := fun _ z => by cases z
theorem setO_nf {w : World} {a : Addr} {S : Int → Bool} {n : Nat} : ¬ Fix (SetO w a S n) := fun z => z
inductive Sl (g : G) (H : Hp) (i : Nat) : V → D → Prop
  | val {v : V} {d : D} : Dq g H v d → Sl g H i v d
  | lst {a : Addr} {xs : List V} {ds : List D} : (i, a) ∈ g.ow → H a = some (.lst xs) → ds.length ≤ sizeLine → Dqs g H xs ds → Sl g H i (.ref a) (ownL ds)
  | set {a : Addr} {S : Int → Bool} {ns : List Int} : (i, a) ∈ g.ow → H a = some (SetO g.w a S ns.length) → (∀ k, S k = true ↔ k ∈ ns) → ns.Pairwise (· < ·) → Sl g H i (.ref a) (ownS ns)
theorem Sl.dq {g : G} {H : Hp} {i : Nat} {v : V} {d : D} (h : Sl g H i v d) (n : isOwn d = false) : Dq g H v d := by
  cases h with
  | val q => exact q
  | lst _ _ _ _ => cases n
  | set _ _ _ _ => cases n
theorem G.ow_add {g : G} {a : Addr} {o : Option Nat} {p : Nat × Addr} (h : p ∈ g.ow) : p ∈ (g.add a o).ow := by
  cases o with
  | none => exact h
  | some i => exact List.mem_cons_of_mem _ h
theorem Sl.add {g : G} {H : Hp} {i : Nat} {v : V} {d : D} {a : Addr} {o : Option Nat} (h : Sl g H i v d) (ha : H a = none) : Sl (g.add a o) H i v d := by
  cases h with
  | val q => exact .val (Dq.add ha _ _ q)
  | lst m e l q => exact .lst (G.ow_add m) e l (Dqs.add ha _ _ q)
  | set m e s l => exact .set (g := g.add a o) (G.ow_add m) e s l
/-! ### readings -/
abbrev En := List (Option D)
structure Ok (g : G) (H : Hp) (n : Nat) : Prop where
  st : Stt g H n
  tb : ∀ P ∈ g.Ps, TabG H P
theorem Ok.to {g : G} {H H' : Hp} {n n' : Nat} (o : Ok g H n) (x : Ext g.sv H H') (s : Stt g H' n') : Ok g H' n' := ⟨s, fun P h => x.2 P (o.tb P h)⟩
structure Rp (g : G) (σ : L2.St) (H : Hp) (e : En) (n : Nat) : Prop where
  ok : Ok g H n
  len : σ.length = e.length
  sl : ∀ (i : Nat) (d : D), e[i]? = some (some d) → ∃ v, σ[i]? = some (some v) ∧ Sl g H i v d
theorem Sl.ext {g : G} {H H' : Hp} {i : Nat} {v : V} {d : D} (h : Sl g H i v d) (x : Ext g.sv H H') (m : ∀ p ∈ g.ow, p.2 ∉ g.sv) : Sl g H' i v d := by
  cases h with
  | val q => exact .val (q.ext x)
  | lst k e l q => exact .lst k (x.own (m _ k) e (fun _ z => by cases z)) l (q.ext x)
  | set k e s l => exact .set k (x.own (m _ k) e setO_nt) s l
theorem Stt.adsv {g : G} {H : Hp} {n : Nat} (o : Stt g H n) : ∀ p ∈ g.ow, p.2 ∉ g.sv := fun p h => G.of_s3 (o.ad p.2 (o.ow p h)).1
theorem Rp.to {g : G} {σ : L2.St} {H H' : Hp} {e : En} {n n' : Nat} (r : Rp g σ H e n) (x : Ext g.sv H H') (s : Stt g H' n') : Rp g σ H' e n' :=
  ⟨r.ok.to x s, r.len, fun i d q => let ⟨v, a, b⟩ := r.sl i d q; ⟨v, a, b.ext x r.ok.st.adsv⟩⟩
theorem Rp.setS {g : G} {σ : L2.St} {H : Hp} {e : En} {n : Nat} (r : Rp g σ H e n) {v : V} {d : D} (i : Nat) (h : Sl g H i v d) : Rp g (σ.set i (some v)) H (e.set i (some d)) n := by
  refine ⟨r.ok, by simp [r.len], fun j u q => ?_⟩
  by_cases hij : i = j
  · subst hij
    by_cases hl : i < e.length
    · simp [List.getElem?_set, hl] at q
      subst q
      exact ⟨v, by simp [List.getElem?_set, r.len, hl], h⟩
    · simp [List.getElem?_set, hl] at q
  · rw [List.getElem?_set_ne hij] at q ⊢
    exact r.sl j u q
theorem Rp.set {g : G} {σ : L2.St} {H : Hp} {e : En} {n : Nat} (r : Rp g σ H e n) {v : V} {d : D} (h : Dq g H v d) (i : Nat) : Rp g (σ.set i (some v)) H (e.set i (some d)) n := r.setS i (.val h)
/-- what is wanted of a value, a test, a list of values, an error -/
def Pd (g : G) (H : Hp) (Q : VK) : D → Nat → Prop := fun d n => ∀ v H', Ext g.sv H H' → Stt g H' n → Dq g H' v d → Q v H'
def Pb (g : G) (H : Hp) (Q : Bool → Hp → Prop) : Bool → Nat → Prop := fun b n => ∀ H', Ext g.sv H H' → Stt g H' n → Q b H'
def Pl (g : G) (H : Hp) (Q : List V → Hp → Prop) : List D → Nat → Prop := fun ds n => ∀ vs H', Ext g.sv H H' → Stt g H' n → Dqs g H' vs ds → Q vs H'
/-- what a statement may change -/
def G.mv (g : G) : List Addr := g.sv ++ g.ow.map (·.2)
theorem Ext.v {g : G} {H H' : Hp} (x : Ext g.sv H H') : Ext g.vol H H' := x.more fun b z => List.mem_append_left _ z
theorem Ext.m {g : G} {H H' : Hp} (x : Ext g.sv H H') : Ext g.mv H H' := x.more fun b z => List.mem_append_left _ z
theorem Ext.mv {g : G} {H H' : Hp} (hw : ∀ p ∈ g.ow, p.2 ∈ g.ad) (x : Ext g.mv H H') : Ext g.vol H H' := x.more fun b z => by
  rcases List.mem_append.mp z with z | z
  · exact List.mem_append_left _ z
  · obtain ⟨p, hp, rfl⟩ := List.mem_map.mp z
    exact List.mem_append_right _ (hw p hp)
def Px (g : G) (H : Hp) : Ex → Nat → Prop := fun x n => ∀ c d H', Ext g.mv H H' → Stt g H' n → g.xr c d H' x → g.xe c d H'
section
variable {g : G} {H H' : Hp}
theorem Pd.to {Q : VK} (x : Ext g.sv H H') {d : D} {n : Nat} (h : Pd g H Q d n) : Pd g H' Q d n := fun v H2 a b c => h v H2 (x.trans a) b c
theorem Pb.to {Q : Bool → Hp → Prop} (x : Ext g.sv H H') {d : Bool} {n : Nat} (h : Pb g H Q d n) : Pb g H' Q d n := fun H2 a b => h H2 (x.trans a) b
theorem Pl.to {Q : List V → Hp → Prop} (x : Ext g.sv H H') {d : List D} {n : Nat} (h : Pl g H Q d n) : Pl g H' Q d n := fun v H2 a b c => h v H2 (x.trans a) b c
theorem Px.tov (x : Ext g.mv H H') {e : Ex} {n : Nat} (h : Px g H e n) : Px g H' e n := fun c d H2 a b z => h c d H2 (x.trans a) b z
theorem Px.to (x : Ext g.sv H H') {e : Ex} {n : Nat} (h : Px g H e n) : Px g H' e n := Px.tov (Ext.m x) h
end
def te (g : G) (f : En → T D) : TE := fun σ H Q => ∃ e n, Rp g σ H e n ∧ (f e).wp n (Pd g H Q) (Px g H)
def tt (g : G) (f : En → T Bool) : TT := fun σ H Q => ∃ e n, Rp g σ H e n ∧ (f e).wp n (Pb g H Q) (Px g H)
def ta (g : G) (f : En → T (List D)) : TA := fun σ H Q => ∃ e n, Rp g σ H e n ∧ (f e).wp n (Pl g H Q) (Px g H)
theorem _root_.L2.PE.imp {X : Cx} {e : Expr} {t t' : TE} (h : PE X e t) (w : ∀ σ H Q, t' σ H Q → t σ H Q) : PE X e t' := ⟨fun pins s σ H Q I q => h.run pins s σ H Q I (w σ H Q q)⟩
theorem _root_.L2.PT.imp {X : Cx} {e : Expr} {t t' : TT} (h : PT X e t) (w : ∀ σ H Q, t' σ H Q → t σ H Q) : PT X e t' := ⟨fun pins s σ H Q I q => h.run pins s σ H Q I (w σ H Q q)⟩
theorem _root_.L2.PW.imp {X : Cx} {e : Expr} {t t' : TT} (h : PW X e t) (w : ∀ σ H Q, t' σ H Q → t σ H Q) : PW X e t' := ⟨fun wh pins s σ H Q I q => h.run wh pins s σ H Q I (w σ H Q q)⟩
theorem _root_.L2.PA.imp {X : Cx} {e : List Expr} {t t' : TA} (h : PA X e t) (w : ∀ σ H Q, t' σ H Q → t σ H Q) : PA X e t' := ⟨fun p pins s σ H Q I q => h.run p pins s σ H Q I (w σ H Q q)⟩
theorem _root_.L2.PS.imp {X : Cx} {e : Stmt} {t t' : TS} (h : PS X e t) (w : ∀ Dn σ H, t' Dn σ H → t Dn σ H) : PS X e t' := ⟨fun pins s σ H Dn I q => h.run pins s σ H Dn I (w Dn σ H q)⟩
theorem _root_.L2.PSs.imp {X : Cx} {e : List Stmt} {t t' : TS} (h : PSs X e t) (w : ∀ Dn σ H, t' Dn σ H → t Dn σ H) : PSs X e t' := ⟨fun pins s σ H Dn I q => h.run pins s σ H Dn I (w Dn σ H q)⟩
/-- .. a first part, then the rest -/
theorem te_step {g : G} {σ : L2.St} {H : Hp} {e : En} {n : Nat} {f : En → T D} {β : Type} {k : D → T β} {Q : β → Nat → Prop} {R : VK} (r : Rp g σ H e n) (h : ((f e).bind k).wp n Q (Px g H))
    (w : ∀ d m v H', Ext g.sv H H' → Rp g σ H' e m → Dq g H' v d → (k d).wp m Q (Px g H) → R v H') : te g f σ H R :=
  ⟨e, n, r, T.wp_mono (T.wp_bind.mp h) (fun d m q v H' x s z => w d m v H' x (r.to x s) z q) fun _ _ z => z⟩
theorem tt_step {g : G} {σ : L2.St} {H : Hp} {e : En} {n : Nat} {f : En → T Bool} {β : Type} {k : Bool → T β} {Q : β → Nat → Prop} {R : Bool → Hp → Prop} (r : Rp g σ H e n) (h : ((f e).bind k).wp n Q (Px g H))
    (w : ∀ d m H', Ext g.sv H H' → Rp g σ H' e m → (k d).wp m Q (Px g H) → R d H') : tt g f σ H R :=
  ⟨e, n, r, T.wp_mono (T.wp_bind.mp h) (fun d m q H' x s => w d m H' x (r.to x s) q) fun _ _ z => z⟩
theorem ta_step {g : G} {σ : L2.St} {H : Hp} {e : En} {n : Nat} {f : En → T (List D)} {β : Type} {k : List D → T β} {Q : β → Nat → Prop} {R : List V → Hp → Prop} (r : Rp g σ H e n) (h : ((f e).bind k).wp n Q (Px g H))
    (w : ∀ d m v H', Ext g.sv H H' → Rp g σ H' e m → Dqs g H' v d → (k d).wp m Q (Px g H) → R v H') : ta g f σ H R :=
  ⟨e, n, r, T.wp_mono (T.wp_bind.mp h) (fun d m q v H' x s z => w d m v H' x (r.to x s) z q) fun _ _ z => z⟩
/-- the wish, from a later heap -/
theorem wp_to {g : G} {H H' : Hp} (x : Ext g.sv H H') {t : T D} {n : Nat} {Q : VK} (h : t.wp n (Pd g H Q) (Px g H)) : t.wp n (Pd g H' Q) (Px g H') := T.wp_mono h (fun _ _ => Pd.to x) fun _ _ => Px.to x
theorem wpb_to {g : G} {H H' : Hp} (x : Ext g.sv H H') {t : T Bool} {n : Nat} {Q : Bool → Hp → Prop} (h : t.wp n (Pb g H Q) (Px g H)) : t.wp n (Pb g H' Q) (Px g H') := T.wp_mono h (fun _ _ => Pb.to x) fun _ _ => Px.to x
theorem wpl_to {g : G} {H H' : Hp} (x : Ext g.sv H H') {t : T (List D)} {n : Nat} {Q : List V → Hp → Prop} (h : t.wp n (Pl g H Q) (Px g H)) : t.wp n (Pl g H' Q) (Px g H') := T.wp_mono h (fun _ _ => Pl.to x) fun _ _ => Px.to x

/-! ### names, constants -/
section
variable {X : Cx} {g : G}
def fVar (i : Nat) : En → T D := fun e => match e[i]? with
  | some (some d) => if isOwn d = true then .bad else .ok d
  | _ => .bad
def fC (d : D) : En → T D := fun _ => .ok d
theorem p_var {i : Nat} {x : Str} {pos : Pos} (hN : X.N[i]? = some x) (hv : Vis X.env.scope x) (hd : (x == ("__debug__" : Str)) = false := by decide) (hcd : (x == ("__classdict__" : Str)) = false := by decide) : PE X (.Name x pos) (te g (fVar i)) :=
  (pe_var hN hv hd hcd).imp fun σ H Q ⟨e, n, r, h⟩ => by
    unfold fVar at h
    cases q : e[i]? with
    | none => rw [q] at h; exact h.elim
    | some o =>
      cases o with
      | none => rw [q] at h; exact h.elim
      | some d =>
        rw [q] at h
        obtain ⟨v, a, b⟩ := r.sl i d q
        dsimp only at h
        split at h
        · exact h.elim
        · rename_i hn
          exact ⟨v, a, h v H (.refl H) r.ok.st (b.dq (by simpa using hn))⟩
theorem p_int {i j pos} : PE X (.Constant (.int i) j pos) (te g (fC (.int i))) := pe_int.imp fun σ H Q ⟨e, n, r, h⟩ => h _ H (.refl H) r.ok.st (.int i)
theorem p_bl {b j pos} : PE X (.Constant (.bool b) j pos) (te g (fC (.bool b))) := pe_bl.imp fun σ H Q ⟨e, n, r, h⟩ => h _ H (.refl H) r.ok.st (.bl b)
theorem p_non {j pos} : PE X (.Constant .none j pos) (te g (fC .none)) := pe_non.imp fun σ H Q ⟨e, n, r, h⟩ => h _ H (.refl H) r.ok.st .non
theorem p_str {x j pos} : PE X (.Constant (.str x) j pos) (te g (fC (.str x))) := pe_str.imp fun σ H Q ⟨e, n, r, h⟩ => h _ H (.refl H) r.ok.st (.str x)
/-- a module's int -/
theorem p_gint {x : Str} {i : Int} {u : Value} {pos : Pos} (hg : Gl X x) (hm : X.mg x = some u) (r : RelV (.int i) u) (hd : (x == ("__debug__" : Str)) = false := by decide) : PE X (.Name x pos) (te g (fC (.int i))) :=
  (pe_glob hg hm r hd).imp fun σ H Q ⟨e, n, r, h⟩ => h _ H (.refl H) r.ok.st (.int i)

/-! ### operators -/
def Op2 (g : G) (r : R2) (o : D → D → T D) : Prop := ∀ H n v u x y Q, Ok g H n → Dq g H v x → Dq g H u y → (o x y).wp n (Pd g H Q) (Px g H) → r v u H Q
def f2 (o : D → D → T D) (a b : En → T D) : En → T D := fun e => (a e).bind fun x => (b e).bind fun y => o x y
theorem p_op2 {r : R2} {o : D → D → T D} {fa fb : En → T D} (ho : Op2 g r o) {σ : L2.St} {H : Hp} {Q : VK} (h : te g (f2 o fa fb) σ H Q) : tOp r (te g fa) (te g fb) σ H Q := by
  obtain ⟨e, n, rp, h⟩ := h
  refine te_step rp h fun d m v H1 x1 r1 q1 h1 => ?_
  refine te_step r1 (T.wp_mono h1 (fun _ _ z => z) fun _ _ => Px.to x1) fun d2 m2 v2 H2 x2 r2 q2 h2 => ?_
  exact ho H2 m2 v v2 d d2 Q r2.ok (q1.ext x2) q2 (T.wp_mono h2 (fun _ _ => Pd.to (x1.trans x2)) fun _ _ => Px.to x2)
theorem p_bin {op : Operator} {r : R2} {o : D → D → T D} {a b : Expr} {fa fb : En → T D} {pos : Pos} (hr : OpR X (binaryOp op) r) (ho : Op2 g r o) (ha : PE X a (te g fa)) (hb : PE X b (te g fb)) : PE X (.BinOp a op b pos) (te g (f2 o fa fb)) :=
  (pe_op hr ha hb).imp fun σ H Q h => p_op2 ho h
theorem p_cmp {op : CmpOp} {r : R2} {o : D → D → T D} {a b : Expr} {fa fb : En → T D} {pos : Pos} (hr : OpR X (compareOp op) r) (ho : Op2 g r o) (ha : PE X a (te g fa)) (hb : PE X b (te g fb)) (hm : behindInMarks op b = false) : PE X (.Compare a [op] [b] pos) (te g (f2 o fa fb)) :=
  (pe_cmpR hr ha hb hm).imp fun σ H Q h => p_op2 ho h
/-- a value that is a truth -/
def asB : D → T Bool
  | .bool b => .ok b
  | _ => .bad
def fB (f : En → T D) : En → T Bool := fun e => (f e).bind asB
theorem te_asB {f : En → T D} {σ : L2.St} {H : Hp} {Q : Bool → Hp → Prop} (h : tt g (fB f) σ H Q) : te g f σ H fun x H' => ∃ k, x = .bl k ∧ Q k H' := by
  obtain ⟨e, n, rp, h⟩ := h
  refine te_step rp h fun d m v H1 x1 r1 q1 h1 => ?_
  cases d with
  | bool b => cases q1; exact ⟨b, rfl, h1 H1 x1 r1.ok.st⟩
  | _ => exact h1.elim
theorem p_tcmp {op : CmpOp} {r : R2} {o : D → D → T D} {a b : Expr} {fa fb : En → T D} {pos : Pos} (hr : OpR X (compareOp op) r) (ho : Op2 g r o) (ha : PE X a (te g fa)) (hb : PE X b (te g fb)) (hm : behindInMarks op b = false) : PT X (.Compare a [op] [b] pos) (tt g (fB (f2 o fa fb))) := by
  refine (pt_cmpR hr ha hb hm).imp fun σ H Q h => ?_
  have h' := te_asB h
  exact p_op2 ho h'
/-- truth -/
def oTru : D → T Bool
  | .none => .ok false
  | .bool b => .ok b
  | .int i => .ok (i != 0)
  | .tuple ds => .ok (!ds.isEmpty)
  | .list ds => .ok (!ds.isEmpty)
  | _ => .bad
def fTru (f : En → T D) : En → T Bool := fun e => (f e).bind oTru
theorem Dqs.emp {H : Hp} {vs : List V} {ds : List D} (h : Dqs g H vs ds) : vs.isEmpty = ds.isEmpty := by
  cases h <;> rfl
theorem p_tru {a : Expr} {f : En → T D} (hK : X.K = g.K) (ha : PE X a (te g f)) (he : ∀ whole, isTrue a X.env whole = (do let v ← whole; standAt a.pos; holding [v] (truthy v)) := by intro _; rfl) : PT X a (tt g (fTru f)) := by
  refine (pt_truth ha he).imp fun σ H Q h => ?_
  obtain ⟨e, n, rp, h⟩ := h
  refine te_step rp h fun d m v H1 x1 r1 q1 h1 => ?_
  have fin : ∀ k, oTru d = .ok k → Q k H1 := fun k z => by rw [z] at h1; exact h1 H1 x1 r1.ok.st
  cases q1 with
  | non => exact ⟨_, rfl, fin _ rfl⟩
  | bl b => exact ⟨_, rfl, fin _ rfl⟩
  | int i => exact ⟨_, rfl, fin _ rfl⟩
  | str s => exact h1.elim
  | lst a b c q => exact ⟨_, .inl ⟨_, .of b, rfl⟩, by rw [q.emp]; exact fin _ rfl⟩
  | tup a c q => exact ⟨_, .inr (.inl ⟨_, by rw [hK]; exact a, rfl⟩), by rw [q.emp]; exact fin _ rfl⟩
  | st e => exact h1.elim
def bNot (f : En → T Bool) : En → T Bool := fun e => (f e).bind fun b => .ok (!b)
theorem p_tnot {a : Expr} {f : En → T Bool} {pos : Pos} (ha : PT X a (tt g f)) : PT X (.UnaryOp .Not a pos) (tt g (bNot f)) := by
  refine (pt_not ha).imp fun σ H Q h => ?_
  obtain ⟨e, n, rp, h⟩ := h
  exact tt_step rp h fun d m H1 x1 r1 h1 => h1 H1 x1 r1.ok.st
def bAnd (f k : En → T Bool) : En → T Bool := fun e => (f e).bind fun b => if b = true then k e else .ok false
def bOr (f k : En → T Bool) : En → T Bool := fun e => (f e).bind fun b => if b = true then .ok true else k e
theorem p_wand1 {a : Expr} {f : En → T Bool} {pos : Pos} (ha : PT X a (tt g f)) : PW X (.BoolOp .And [a] pos) (tt g f) := pw_and1 ha
theorem p_wor1 {a : Expr} {f : En → T Bool} {pos : Pos} (ha : PT X a (tt g f)) : PW X (.BoolOp .Or [a] pos) (tt g f) := pw_or1 ha
theorem p_wand {a b : Expr} {rest : List Expr} {f k : En → T Bool} {pos : Pos} (ha : PT X a (tt g f)) (hb : PW X (.BoolOp .And (b :: rest) pos) (tt g k)) : PW X (.BoolOp .And (a :: b :: rest) pos) (tt g (bAnd f k)) := by
  refine (pw_and ha hb).imp fun σ H Q h => ?_
  obtain ⟨e, n, rp, h⟩ := h
  refine tt_step rp h fun d m H1 x1 r1 h1 => ?_
  cases d with
  | true => exact ⟨e, m, r1, wpb_to x1 h1⟩
  | false => exact h1 H1 x1 r1.ok.st
theorem p_wor {a b : Expr} {rest : List Expr} {f k : En → T Bool} {pos : Pos} (ha : PT X a (tt g f)) (hb : PW X (.BoolOp .Or (b :: rest) pos) (tt g k)) : PW X (.BoolOp .Or (a :: b :: rest) pos) (tt g (bOr f k)) := by
  refine (pw_or ha hb).imp fun σ H Q h => ?_
  obtain ⟨e, n, rp, h⟩ := h
  refine tt_step rp h fun d m H1 x1 r1 h1 => ?_
  cases d with
  | false => exact ⟨e, m, r1, wpb_to x1 h1⟩
  | true => exact h1 H1 x1 r1.ok.st
/-- values that are truths -/
def fNot (f : En → T D) : En → T D := fun e => (f e).bind fun d => (asB d).bind fun b => .ok (.bool (!b))
def fAnd (f k : En → T D) : En → T D := fun e => (f e).bind fun d => (asB d).bind fun b => if b = true then k e else .ok (.bool false)
def fOr (f k : En → T D) : En → T D := fun e => (f e).bind fun d => (asB d).bind fun b => if b = true then .ok (.bool true) else k e
theorem p_one {op} {a : Expr} {f : En → T D} {pos : Pos} (h : PE X a (te g f)) : PE X (.BoolOp op [a] pos) (te g f) := pe_one h
theorem p_not {a : Expr} {f : En → T D} {pos : Pos} (ha : PE X a (te g f)) : PE X (.UnaryOp .Not a pos) (te g (fNot f)) := by
  refine (pe_not ha).imp fun σ H Q h => ?_
  obtain ⟨e, n, rp, h⟩ := h
  refine te_step rp h fun d m v H1 x1 r1 q1 h1 => ?_
  cases q1 with
  | bl b => exact ⟨b, rfl, h1 _ H1 x1 r1.ok.st (.bl _)⟩
  | _ => exact h1.elim
theorem p_and {a b : Expr} {rest : List Expr} {f k : En → T D} {pos : Pos} (ha : PE X a (te g f)) (hb : PE X (.BoolOp .And (b :: rest) pos) (te g k)) : PE X (.BoolOp .And (a :: b :: rest) pos) (te g (fAnd f k)) := by
  refine (pe_and ha hb).imp fun σ H Q h => ?_
  obtain ⟨e, n, rp, h⟩ := h
  refine te_step rp h fun d m v H1 x1 r1 q1 h1 => ?_
  cases q1 with
  | bl b =>
    refine ⟨b, rfl, ?_⟩
    cases b with
    | true => exact ⟨e, m, r1, wp_to x1 h1⟩
    | false => exact h1 _ H1 x1 r1.ok.st (.bl _)
  | _ => exact h1.elim
theorem p_or {a b : Expr} {rest : List Expr} {f k : En → T D} {pos : Pos} (ha : PE X a (te g f)) (hb : PE X (.BoolOp .Or (b :: rest) pos) (te g k)) : PE X (.BoolOp .Or (a :: b :: rest) pos) (te g (fOr f k)) := by
  refine (pe_or ha hb).imp fun σ H Q h => ?_
  obtain ⟨e, n, rp, h⟩ := h
  refine te_step rp h fun d m v H1 x1 r1 q1 h1 => ?_
  cases q1 with
  | bl b =>
    refine ⟨b, rfl, ?_⟩
    cases b with
    | false => exact ⟨e, m, r1, wp_to x1 h1⟩
    | true => exact h1 _ H1 x1 r1.ok.st (.bl _)
  | _ => exact h1.elim
def fIf (c : En → T Bool) (a b : En → T D) : En → T D := fun e => (c e).bind fun k => if k = true then a e else b e
theorem p_ifx {c a b : Expr} {fc : En → T Bool} {fa fb : En → T D} {pos : Pos} (hc : PT X c (tt g fc)) (ha : PE X a (te g fa)) (hb : PE X b (te g fb)) : PE X (.IfExp c a b pos) (te g (fIf fc fa fb)) := by
  refine (pe_ifExp hc ha hb).imp fun σ H Q h => ?_
  obtain ⟨e, n, rp, h⟩ := h
  refine tt_step rp h fun d m H1 x1 r1 h1 => ?_
  cases d with
  | true => exact ⟨e, m, r1, wp_to x1 h1⟩
  | false => exact ⟨e, m, r1, wp_to x1 h1⟩

/-! ### arguments, displays -/
def aNil : En → T (List D) := fun _ => .ok []
def aCons (f : En → T D) (k : En → T (List D)) : En → T (List D) := fun e => (f e).bind fun d => (k e).bind fun ds => .ok (d :: ds)
theorem p_nil : PA X [] (ta g aNil) := pa_nil.imp fun σ H Q ⟨e, n, r, h⟩ => h [] H (.refl H) r.ok.st .nil
theorem p_cons {a : Expr} {es : List Expr} {f : En → T D} {k : En → T (List D)} (ha : PE X a (te g f)) (hr : PA X es (ta g k)) (hs : starEach (a :: es) X.env = (false, eval a X.env) :: starEach es X.env := by rfl) : PA X (a :: es) (ta g (aCons f k)) := by
  refine (pa_cons ha hr hs).imp fun σ H Q h => ?_
  obtain ⟨e, n, rp, h⟩ := h
  refine te_step rp h fun d m v H1 x1 r1 q1 h1 => ?_
  refine ta_step r1 (T.wp_mono h1 (fun _ _ z => z) fun _ _ => Px.to x1) fun ds m2 vs H2 x2 r2 q2 h2 => ?_
  exact h2 _ H2 (x1.trans x2) r2.ok.st (.cons (q1.ext x2) q2)
def mkT (ds : List D) : T D := if ds.length ≤ sizeLine then .ok (.tuple ds) else .bad
def mkL (ds : List D) : T D := if ds.length ≤ sizeLine then .ok (.list ds) else .bad
theorem Pd.newT {H0 H : Hp} {n : Nat} {Q : VK} {ds : List D} {vs : List V} (x : Ext g.sv H0 H) (s : Stt g H n) (q : Dqs g H vs ds) (h : (mkT ds).wp n (Pd g H0 Q) (Px g H0)) : vs.length ≤ sizeLine ∧ ∀ p, H p = none → Q (.ref p) (upd H p (.tup vs)) := by
  unfold mkT at h
  split at h
  · rename_i hl
    refine ⟨by rw [q.len]; exact hl, fun p hp => ?_⟩
    exact h _ _ (x.trans (Ext.new hp)) (s.ext (Ext.new hp)) (.tup SqT.new hl (q.ext (Ext.new hp)))
  · exact h.elim
theorem Pd.newL {H0 H : Hp} {n : Nat} {Q : VK} {ds : List D} {vs : List V} (x : Ext g.sv H0 H) (s : Stt g H n) (q : Dqs g H vs ds) (h : (mkL ds).wp n (Pd g H0 Q) (Px g H0)) : vs.length ≤ sizeLine ∧ ∀ p, H p = none → Q (.ref p) (upd H p (.lst vs)) := by
  unfold mkL at h
  split at h
  · rename_i hl
    refine ⟨by rw [q.len]; exact hl, fun p hp => ?_⟩
    exact h _ _ (x.trans (Ext.new hp)) (s.ext (Ext.new hp)) (.lst (s.fresh hp) upd_same hl (q.ext (Ext.new hp)))
  · exact h.elim
def fTup (k : En → T (List D)) : En → T D := fun e => (k e).bind mkT
def fLst (k : En → T (List D)) : En → T D := fun e => (k e).bind mkL
theorem p_tup {es : List Expr} {x1} {k : En → T (List D)} {pos : Pos} (h : PA X es (ta g k)) : PE X (.Tuple es x1 pos) (te g (fTup k)) :=
  (pe_tup h).imp fun σ H Q ⟨e, n, rp, h⟩ => ta_step rp h fun ds m vs H1 x1 r1 q1 h1 => Pd.newT x1 r1.ok.st q1 h1
theorem p_lst {es : List Expr} {k : En → T (List D)} {pos : Pos} (h : PA X es (ta g k)) : PE X (.List es pos) (te g (fLst k)) :=
  (pe_lst h).imp fun σ H Q ⟨e, n, rp, h⟩ => ta_step rp h fun ds m vs H1 x1 r1 q1 h1 => Pd.newL x1 r1.ok.st q1 h1
end
end PL
set_option Elab.async false
set_option linter.all false
set_option maxRecDepth 100000
set_option maxHeartbeats 4000000
namespace PL
open PySem L2 G9 GxR
section
variable {X : Cx} {g : G}
theorem Pd.here {H : Hp} {n : Nat} {Q : VK} {d : D} {v : V} (o : Ok g H n) (q : Dq g H v d) (h : (T.ok d : T D).wp n (Pd g H Q) (Px g H)) : Q v H := h v H (.refl H) o.st q
theorem bad_elim {α : Type} {n : Nat} {Q : α → Nat → Prop} {E : Ex → Nat → Prop} {p : Prop} (h : (T.bad : T α).wp n Q E) : p := h.elim

/-! ### + - * // % -/
def oAdd : D → D → T D
  | .int a, .int b => .ok (.int (a + b))
  | .tuple xs, .tuple ys => mkT (xs ++ ys)
  | .list xs, .list ys => mkL (xs ++ ys)
  | _, _ => .bad
def rAddA (K : PySem.W.Frag) : R2 := fun x y H Q => (rI0 fun i j => .int (i + j)) x y H Q ∨ rCatA K x y H Q ∨ rCat x y H Q
theorem op_addA : OpR X (binaryOp .Add) (rAddA X.K) := op_add.or (op_catA.or op_cat)
theorem o_add (hK : X.K = g.K) : Op2 g (rAddA X.K) oAdd := by
  intro H n v u x y Q o qx qy h
  cases qx with
  | int i =>
    cases qy with
    | int j => exact .inl ⟨i, j, rfl, rfl, Pd.here o (.int _) h⟩
    | _ => exact bad_elim h
  | tup a l q =>
    cases qy with
    | tup a' l' q' =>
      rename_i t xs ds t' xs' ds'
      refine .inr (.inl ⟨_, _, _, _, rfl, rfl, by rw [hK]; exact a, by rw [hK]; exact a', ?_⟩)
      have hh := Pd.newT (Ext.refl H) o.st (q.app q') h
      rw [List.length_append] at hh
      have h : (mkT (ds ++ ds')).wp n (Pd g H Q) (Px g H) := h
      have fin : ∀ w H', Ext g.sv H H' → Stt g H' n → Dq g H' w (.tuple (ds ++ ds')) → Q w H' := by
        unfold mkT at h
        split at h
        · exact h
        · exact bad_elim h
      refine ⟨hh.1, fun e => ?_, fun _ e => ?_, fun _ _ => hh.2⟩
      · have e2 : ds = [] := by have := q.len; rw [e] at this; exact List.length_eq_zero_iff.mp this.symm
        subst e2
        exact fin _ H (.refl H) o.st (.tup a' l' q')
      · have e2 : ds' = [] := by have := q'.len; rw [e] at this; exact List.length_eq_zero_iff.mp this.symm
        subst e2
        rw [List.append_nil] at fin
        exact fin _ H (.refl H) o.st (.tup a l q)
    | _ => exact bad_elim h
  | lst n1 a l q =>
    cases qy with
    | lst n2 a' l' q' =>
      have hh := Pd.newL (Ext.refl H) o.st (q.app q') h
      rw [List.length_append] at hh
      exact .inr (.inr ⟨_, _, _, _, rfl, rfl, a, a', hh.1, hh.2⟩)
    | _ => exact bad_elim h
  | _ => exact bad_elim h
def oII (c : Int → Int → Bool) (f : Int → Int → D) : D → D → T D
  | .int a, .int b => if c a b = true then .ok (f a b) else .bad
  | _, _ => .bad
theorem o_ii {C : Int → Int → Prop} {c : Int → Int → Bool} {f : Int → Int → D} {w : Int → Int → V} (hc : ∀ i j, c i j = true → C i j) (hw : ∀ i j H, Dq g H (w i j) (f i j)) : Op2 g (rI C w) (oII c f) := by
  intro H n v u x y Q o qx qy h
  cases qx with
  | int i =>
    cases qy with
    | int j =>
      have h : (if c i j = true then (T.ok (f i j) : T D) else .bad).wp n (Pd g H Q) (Px g H) := h
      split at h
      · rename_i hh
        exact ⟨i, j, rfl, rfl, hc _ _ hh, Pd.here o (hw i j H) h⟩
      · exact bad_elim h
    | _ => exact bad_elim h
  | _ => exact bad_elim h
def oII0 (f : Int → Int → D) : D → D → T D
  | .int a, .int b => .ok (f a b)
  | _, _ => .bad
theorem o_ii0 {f : Int → Int → D} {w : Int → Int → V} (hw : ∀ i j H, Dq g H (w i j) (f i j)) : Op2 g (rI0 w) (oII0 f) := by
  intro H n v u x y Q o qx qy h
  cases qx with
  | int i =>
    cases qy with
    | int j => exact ⟨i, j, rfl, rfl, Pd.here o (hw i j H) h⟩
    | _ => exact bad_elim h
  | _ => exact bad_elim h
def oSub : D → D → T D := oII0 fun i j => .int (i - j)
theorem o_sub : Op2 g (rI0 fun i j => .int (i - j)) oSub := o_ii0 fun _ _ _ => .int _
def cMul (i j : Int) : Bool := (decide (-(2 ^ 64) < i) && decide (i < 2 ^ 64)) || (decide (-(2 ^ 64) < j) && decide (j < 2 ^ 64))
def oMul : D → D → T D := oII cMul fun i j => .int (i * j)
theorem o_mul : Op2 g (rI CMul fun i j => .int (i * j)) oMul := o_ii (fun i j h => by simpa [cMul, CMul] using h) fun _ _ _ => .int _
def oDiv : D → D → T D := oII (fun _ j => decide (0 < j) && decide (j < 1073741824)) fun i j => .int (i / j)
theorem o_div : Op2 g (rI CDiv fun i j => .int (i / j)) oDiv := o_ii (fun i j h => by simpa [CDiv] using h) fun _ _ _ => .int _
def oMod : D → D → T D := oII (fun _ j => decide (0 < j)) fun i j => .int (i % j)
theorem o_mod : Op2 g (rI (fun _ j => 0 < j) fun i j => .int (i % j)) oMod := o_ii (fun i j h => by simpa using h) fun _ _ _ => .int _
def oPow : D → D → T D := oII (fun i j => decide (0 ≤ j) && decide (j ≤ 1000000) && decide (i.natAbs < 2 ^ 64)) fun i j => .int (i ^ j.toNat)
theorem o_pow : Op2 g (rI CPow fun i j => .int (i ^ j.toNat)) oPow := o_ii (fun i j h => by simpa [CPow, and_assoc] using h) fun _ _ _ => .int _
def oNeg : D → T D
  | .int a => .ok (.int (-a))
  | _ => .bad
def f1 (o : D → T D) (a : En → T D) : En → T D := fun e => (a e).bind o
theorem p_neg {a : Expr} {f : En → T D} {pos : Pos} (ha : PE X a (te g f)) : PE X (.UnaryOp .USub a pos) (te g (f1 oNeg f)) := by
  refine (pe_un un_neg ha).imp fun σ H Q h => ?_
  obtain ⟨e, n, rp, h⟩ := h
  refine te_step rp h fun d m v H1 x1 r1 q1 h1 => ?_
  cases q1 with
  | int i => exact ⟨i, rfl, h1 _ H1 x1 r1.ok.st (.int _)⟩
  | _ => exact bad_elim h1

/-! ### comparisons -/
def good (d : D) : Bool := pl d && SeqAt.shaped d
def oEq (x y : D) : T D := if (good x && good y) = true then .ok (.bool (PyData.eqv x y)) else .bad
def oNe (x y : D) : T D := if (good x && good y) = true then .ok (.bool (!PyData.eqv x y)) else .bad
theorem o_eq (hK : X.K = g.K) : Op2 g (rEqD X.K) oEq := by
  intro H n v u x y Q o qx qy h
  unfold oEq at h
  split at h
  · rename_i hh
    simp only [good, Bool.and_eq_true] at hh
    exact ⟨x, y, by rw [hK]; exact qx.dp _ _ hh.1.1, by rw [hK]; exact qy.dp _ _ hh.2.1, hh.1.2, hh.2.2, Pd.here o (.bl _) h⟩
  · exact bad_elim h
theorem o_ne (hK : X.K = g.K) : Op2 g (rNeD X.K) oNe := by
  intro H n v u x y Q o qx qy h
  unfold oNe at h
  split at h
  · rename_i hh
    simp only [good, Bool.and_eq_true] at hh
    exact ⟨x, y, by rw [hK]; exact qx.dp _ _ hh.1.1, by rw [hK]; exact qy.dp _ _ hh.2.1, hh.1.2, hh.2.2, Pd.here o (.bl _) h⟩
  · exact bad_elim h
/-- a list of ints -/
def intsOf : List D → Option (List Int)
  | [] => some []
  | .int i :: ds => (intsOf ds).map (i :: ·)
  | _ => none
theorem intsOf_map : ∀ ns : List Int, intsOf (ns.map PyData.int) = some ns
  | [] => rfl
  | n :: ns => by simp [intsOf, intsOf_map ns]
theorem of_intsOf : ∀ {ds : List D} {ns : List Int}, intsOf ds = some ns → ds = ns.map PyData.int
  | [], ns, h => by simp [intsOf] at h; subst h; rfl
  | d :: ds, ns, h => by
    cases d with
    | int i =>
      simp only [intsOf, Option.map_eq_some_iff] at h
      obtain ⟨ms, h1, h2⟩ := h
      rw [← h2, of_intsOf h1]
      rfl
    | _ => simp [intsOf] at h
def oLt : D → D → T D
  | .int a, .int b => .ok (.bool (decide (a < b)))
  | .tuple xs, .tuple ys => match intsOf xs, intsOf ys with
    | some a, some b => .ok (.bool (HT.lexLt a b))
    | _, _ => .bad
  | _, _ => .bad
def rLtA (K : PySem.W.Frag) : R2 := fun x y H Q => (rI0 fun i j => .bl (decide (i < j))) x y H Q ∨ rLtT K x y H Q
theorem op_ltA (hu : X.A.units < cLine) : OpR X (compareOp .Lt) (rLtA X.K) := op_lt.or (op_ltT hu)
theorem o_lt (hK : X.K = g.K) : Op2 g (rLtA X.K) oLt := by
  intro H n v u x y Q o qx qy h
  cases qx with
  | int i =>
    cases qy with
    | int j => exact .inl ⟨i, j, rfl, rfl, Pd.here o (.bl _) h⟩
    | _ => exact bad_elim h
  | tup a l q =>
    cases qy with
    | tup a' l' q' =>
      unfold oLt at h
      dsimp only at h
      split at h
      · rename_i hx hy
        have e1 := of_intsOf hx
        have e2 := of_intsOf hy
        subst e1 e2
        exact .inr ⟨_, _, _, _, rfl, rfl, by rw [hK, ← q.ints]; exact a, by rw [hK, ← q'.ints]; exact a', Pd.here o (.bl _) h⟩
      · exact bad_elim h
    | _ => exact bad_elim h
  | _ => exact bad_elim h
def leI (ns ms : List Int) : Bool := Ob.lexAt (fun j => decide (ns.getD j 0 = ms.getD j 0)) (fun j => decide (ns.getD j 0 ≤ ms.getD j 0)) (decide (ns.length ≤ ms.length)) 0 (min ns.length ms.length)
def oLe : D → D → T D
  | .int a, .int b => .ok (.bool (decide (a ≤ b)))
  | .tuple xs, .tuple ys => match intsOf xs, intsOf ys with
    | some a, some b => .ok (.bool (leI a b))
    | _, _ => .bad
  | _, _ => .bad
def rLeA (K : PySem.W.Frag) : R2 := fun x y H Q => (rI0 fun i j => .bl (decide (i ≤ j))) x y H Q ∨ rLeT K x y H Q
theorem op_leA (hu : X.A.units < cLine) : OpR X (compareOp .LtE) (rLeA X.K) := op_le.or (op_leT hu)
theorem o_le (hK : X.K = g.K) : Op2 g (rLeA X.K) oLe := by
  intro H n v u x y Q o qx qy h
  cases qx with
  | int i =>
    cases qy with
    | int j => exact .inl ⟨i, j, rfl, rfl, Pd.here o (.bl _) h⟩
    | _ => exact bad_elim h
  | tup a l q =>
    cases qy with
    | tup a' l' q' =>
      unfold oLe at h
      dsimp only at h
      split at h
      · rename_i hx hy
        have e1 := of_intsOf hx
        have e2 := of_intsOf hy
        subst e1 e2
        exact .inr ⟨_, _, _, _, rfl, rfl, by rw [hK, ← q.ints]; exact a, by rw [hK, ← q'.ints]; exact a', Pd.here o (.bl _) h⟩
      · exact bad_elim h
    | _ => exact bad_elim h
  | _ => exact bad_elim h
def oGt : D → D → T D := oII0 fun i j => .bool (decide (j < i))
theorem o_gt : Op2 g (rI0 fun i j => .bl (decide (j < i))) oGt := o_ii0 fun _ _ _ => .bl _
def oGe : D → D → T D := oII0 fun i j => .bool (decide (j ≤ i))
theorem o_ge : Op2 g (rI0 fun i j => .bl (decide (j ≤ i))) oGe := o_ii0 fun _ _ _ => .bl _
/-- x in xs -/
def flatD : D → Bool
  | .none | .bool _ | .int _ | .str _ => true
  | _ => false
theorem flat_of {H : Hp} {v : V} {d : D} (q : Dq g H v d) (f : flatD d = true) : flatV v = true := by
  cases q with
  | non => rfl
  | bl _ => rfl
  | int _ => rfl
  | str _ => rfl
  | _ => simp [flatD] at f
theorem flat_eq {H : Hp} {v u : V} {d e : D} (q : Dq g H v d) (q' : Dq g H u e) (f : flatD d = true) (f' : flatD e = true) : eqV v u = PyData.eqv d e := by
  cases q with
  | non => cases q' <;> first | rfl | simp [flatD] at f'
  | bl _ => cases q' <;> first | rfl | simp [flatD] at f'
  | int _ => cases q' <;> first | rfl | simp [flatD] at f'
  | str _ => cases q' <;> first | rfl | simp [flatD] at f'
  | _ => simp [flatD] at f
theorem flats_of {H : Hp} : ∀ {vs : List V} {ds : List D}, Dqs g H vs ds → ds.all flatD = true → vs.all flatV = true
  | _, [], q, _ => by cases q; rfl
  | _, d :: ds, q, f => by
    cases q with
    | cons a b =>
      simp only [List.all_cons, Bool.and_eq_true] at f ⊢
      exact ⟨flat_of a f.1, flats_of b f.2⟩
theorem inV_eq {H : Hp} {v : V} {d : D} (q : Dq g H v d) (f : flatD d = true) : ∀ {vs : List V} {ds : List D}, Dqs g H vs ds → ds.all flatD = true → inV v vs = ds.any fun y => PyData.eqv y d
  | _, [], q', _ => by cases q'; rfl
  | _, e :: ds, q', f' => by
    cases q' with
    | cons a b =>
      simp only [List.all_cons, Bool.and_eq_true] at f'
      have := inV_eq q f b f'.2
      simp only [inV, List.any_cons] at this ⊢
      rw [flat_eq a q f'.1 f, this]
def oIn (neg : Bool) : D → D → T D
  | x, .tuple ds => if (flatD x && ds.all flatD) = true then .ok (.bool (if neg then !ds.any fun y => PyData.eqv y x else ds.any fun y => PyData.eqv y x)) else .bad
  | x, .list ds => if (flatD x && ds.all flatD) = true then .ok (.bool (if neg then !ds.any fun y => PyData.eqv y x else ds.any fun y => PyData.eqv y x)) else .bad
  | _, _ => .bad
theorem o_in (neg : Bool) (hK : X.K = g.K) : Op2 g (rIn X.K neg) (oIn neg) := by
  intro H n v u x y Q o qx qy h
  have key : ∀ {vs : List V} {ds : List D}, Dqs g H vs ds → (if (flatD x && ds.all flatD) = true then (T.ok (.bool (if neg then !ds.any fun y => PyData.eqv y x else ds.any fun y => PyData.eqv y x)) : T D) else .bad).wp n (Pd g H Q) (Px g H) →
      flatV v = true ∧ vs.all flatV = true ∧ Q (.bl (if neg then !inV v vs else inV v vs)) H := by
    intro vs ds q h
    split at h
    · rename_i hh
      simp only [Bool.and_eq_true] at hh
      refine ⟨flat_of qx hh.1, flats_of q hh.2, ?_⟩
      rw [inV_eq qx hh.1 q hh.2]
      exact Pd.here o (.bl _) h
    · exact bad_elim h
  cases qy with
  | tup a l q => exact ⟨_, _, rfl, .inr (by rw [hK]; exact a), key q h⟩
  | lst m a l q => exact ⟨_, _, rfl, .inl (.of a), key q h⟩
  | _ => exact bad_elim h
/-- a < b < c -/
def oCh (o o' : D → D → T D) (a b c : En → T D) : En → T D := fun e => (a e).bind fun x => (b e).bind fun y => (o x y).bind fun z => (asB z).bind fun k => if k = true then (c e).bind fun w => o' y w else .ok (.bool false)

/-! ### len, int, type -/
def oLen : D → T D
  | .tuple ds => .ok (.int ds.length)
  | .list ds => .ok (.int ds.length)
  | _ => .bad
/-- a call of a built-in with one value -/
def Cr1 (g : G) (r : List V → Hp → VK → Prop) (o : D → T D) : Prop := ∀ H n v x Q, Ok g H n → Dq g H v x → (o x).wp n (Pd g H Q) (Px g H) → r [v] H Q
theorem p_cr1 {r : List V → Hp → VK → Prop} {o : D → T D} {f : En → T D} (ho : Cr1 g r o) {σ : L2.St} {H : Hp} {Q : VK} (h : te g (f1 o f) σ H Q) : tCB r (tCons (te g f) tNil) σ H Q := by
  obtain ⟨e, n, rp, h⟩ := h
  refine te_step rp h fun d m v H1 x1 r1 q1 h1 => ?_
  exact ho H1 m v d Q r1.ok q1 (wp_to x1 h1)
theorem c_len (hK : X.K = g.K) : Cr1 g (fun xs H Q => ∃ p ys, xs = [.ref p] ∧ (SqL X.K H p ys ∨ SqT X.K H p ys) ∧ Q (.int ys.length) H) oLen := by
  intro H n v x Q o q h
  cases q with
  | tup a l q => exact ⟨_, _, rfl, .inr (by rw [hK]; exact a), by rw [q.len]; exact Pd.here o (.int _) h⟩
  | lst m a l q => exact ⟨_, _, rfl, .inl (.of a), by rw [q.len]; exact Pd.here o (.int _) h⟩
  | _ => exact bad_elim h
theorem p_len {a : Expr} {f : En → T D} {p pos : Pos} (hK : X.K = g.K) (hg : Gl X "len") (hm : X.mg "len" = none) (ha : PE X a (te g f)) (he : starEach [a] X.env = (false, eval a X.env) :: starEach [] X.env := by rfl) : PE X (.Call (.Name "len" p) [a] [] pos) (te g (f1 oLen f)) :=
  (pe_callB call_len_seq hg hm PySem.boot_len (pa_cons ha pa_nil he) (he := he)).imp fun σ H Q h => p_cr1 (c_len hK) h
def oInt : D → T D
  | .int i => .ok (.int i)
  | .bool b => .ok (.int (if b then 1 else 0))
  | _ => .bad
theorem c_int : Cr1 g (fun xs H Q => (∃ i, xs = [.int i] ∧ Q (.int i) H) ∨ ∃ k, xs = [.bl k] ∧ Q (.int (if k then 1 else 0)) H) oInt := by
  intro H n v x Q o q h
  cases q with
  | int i => exact .inl ⟨i, rfl, Pd.here o (.int _) h⟩
  | bl b => exact .inr ⟨b, rfl, Pd.here o (.int _) h⟩
  | _ => exact bad_elim h
end
end PL
set_option Elab.async false
set_option linter.all false
set_option maxRecDepth 100000
set_option maxHeartbeats 4000000
namespace PL
open PySem L2 G9 GxR
/-! ### targets -/
def SameBut (gs : List Nat) (σ σ' : L2.St) : Prop := σ'.length = σ.length ∧ ∀ i, i ∉ gs → σ'[i]? = σ[i]?
theorem SameBut.refl (gs : List Nat) (σ : L2.St) : SameBut gs σ σ := ⟨rfl, fun _ _ => rfl⟩
theorem SameBut.trans {gs hs : List Nat} {a b c : L2.St} (x : SameBut gs a b) (y : SameBut hs b c) : SameBut (gs ++ hs) a c :=
  ⟨y.1.trans x.1, fun i h => by rw [List.mem_append, not_or] at h; exact (y.2 i h.2).trans (x.2 i h.1)⟩
theorem SameBut.set (σ : L2.St) (i : Nat) (v : Option V) : SameBut [i] σ (σ.set i v) := ⟨by simp, fun j h => by rw [List.getElem?_set_ne]; intro z; exact h (by simp [z])⟩
theorem wipe_get {σ : L2.St} : ∀ {vs : List Nat} {i : Nat}, i ∉ vs → (wipe σ vs)[i]? = σ[i]?
  | [], _, _ => rfl
  | v :: vs, i, h => by
    simp only [List.mem_cons, not_or] at h
    unfold wipe
    rw [List.getElem?_set_ne (fun z => h.1 z.symm)]
    exact wipe_get h.2
theorem wipe_in {σ : L2.St} : ∀ {vs : List Nat} {i : Nat}, i ∈ vs → i < σ.length → (wipe σ vs)[i]? = some none
  | v :: vs, i, h, hl => by
    unfold wipe
    by_cases e : v = i
    · subst e
      rw [List.getElem?_set_self (by rw [wipe_length]; exact hl)]
    · rw [List.getElem?_set_ne e]
      rcases List.mem_cons.mp h with z | z
      · exact absurd z.symm e
      · exact wipe_in z hl
theorem SameBut.wipe {gs vs : List Nat} {σ σ' : L2.St} (x : SameBut gs (L2.wipe σ vs) σ') (h : ∀ i ∈ gs, i ∈ vs) : L2.wipe σ' vs = L2.wipe σ vs := by
  apply List.ext_getElem?
  intro i
  have hl : σ'.length = σ.length := by rw [x.1, wipe_length]
  by_cases hi : i ∈ vs
  · by_cases hlt : i < σ.length
    · rw [wipe_in hi hlt, wipe_in hi (by rw [hl]; exact hlt)]
    · rw [List.getElem?_eq_none (by rw [wipe_length, hl]; omega), List.getElem?_eq_none (by rw [wipe_length]; omega)]
  · rw [wipe_get hi, x.2 i (fun z => hi (h i z))]
def wipeE (e : En) : List Nat → En
  | [] => e
  | v :: vs => (wipeE e vs).set v none
theorem Rp.forget {g : G} {σ : L2.St} {H : Hp} {e : En} {n : Nat} (r : Rp g σ H e n) (i : Nat) : Rp g (σ.set i none) H (e.set i none) n := by
  refine ⟨r.ok, by simp [r.len], fun j u q => ?_⟩
  by_cases hij : i = j
  · subst hij
    by_cases hl : i < e.length
    · simp [List.getElem?_set, hl] at q
    · simp [List.getElem?_set, hl] at q
  · rw [List.getElem?_set_ne hij] at q ⊢
    exact r.sl j u q
theorem Rp.wipe {g : G} {σ : L2.St} {H : Hp} {e : En} {n : Nat} (r : Rp g σ H e n) : ∀ vs : List Nat, Rp g (L2.wipe σ vs) H (wipeE e vs) n
  | [] => r
  | v :: vs => (r.wipe vs).forget v
def tg (g : G) (gs : List Nat) (gt : D → En → T En) : TG := fun v σ H Q => ∃ e n d, Rp g σ H e n ∧ Dq g H v d ∧ (gt d e).wp n (fun e' m => ∀ σ' H', SameBut gs σ σ' → Ext g.sv H H' → Rp g σ' H' e' m → Q σ' H') (Px g H)
def tgs (g : G) (gs : List Nat) (gt : List D → En → T En) : TGs := fun vs σ H Q => ∃ e n ds, Rp g σ H e n ∧ Dqs g H vs ds ∧ (gt ds e).wp n (fun e' m => ∀ σ' H', SameBut gs σ σ' → Ext g.sv H H' → Rp g σ' H' e' m → Q σ' H') (Px g H)
theorem _root_.L2.PG.imp {X : Cx} {e : Expr} {t t' : TG} (h : PG X e t) (w : ∀ v σ H Q, t' v σ H Q → t v σ H Q) : PG X e t' := ⟨fun pins s σ H v u Q I r q => h.run pins s σ H v u Q I r (w v σ H Q q)⟩
theorem _root_.L2.PGs.imp {X : Cx} {e : List Expr} {t t' : TGs} (h : PGs X e t) (w : ∀ v σ H Q, t' v σ H Q → t v σ H Q) : PGs X e t' := ⟨fun pins s σ H v u Q I r q => h.run pins s σ H v u Q I r (w v σ H Q q)⟩
theorem _root_.L2.PI.imp {X : Cx} {tg e : Expr} {t t' : TI} (h : PI X tg e t) (w : ∀ σ H R, t' σ H R → t σ H R) : PI X tg e t' := ⟨fun pins s σ H R I q => h.run pins s σ H R I (w σ H R q)⟩
theorem _root_.L2.PTs.imp {X : Cx} {e : List Expr} {t t' : TT} (h : PTs X e t) (w : ∀ σ H Q, t' σ H Q → t σ H Q) : PTs X e t' := ⟨fun pins s σ H Q I q => h.run pins s σ H Q I (w σ H Q q)⟩
def gN (i : Nat) : D → En → T En := fun d e => .ok (e.set i (some d))
def gsN : List D → En → T En
  | [], e => .ok e
  | _ :: _, _ => .bad
def gsC (a : D → En → T En) (b : List D → En → T En) : List D → En → T En
  | d :: ds, e => (a d e).bind (b ds)
  | [], _ => .bad
def gT (n : Nat) (b : List D → En → T En) : D → En → T En
  | .tuple ds, e => if ds.length = n then b ds e else .bad
  | _, _ => .bad
section
variable {X : Cx} {g : G}
theorem p_gn {i : Nat} {x : Str} {pos : Pos} (hN : X.N.Nodup) (hi : X.N[i]? = some x) (hx : Loc X.env.scope x) (hf : X.fn x = true ∨ X.env.scope.names.lookup x = some .local := by first | exact .inl rfl | exact .inr rfl | assumption) : PG X (.Name x pos) (tg g [i] (gN i)) :=
  (pg_name hN hi hx hf).imp fun v σ H Q ⟨e, n, d, r, q, h⟩ => h _ H (.set σ i _) (.refl H) (r.set q i)
theorem p_gsn : PGs X [] (tgs g [] gsN) := pgs_nil.imp fun vs σ H Q ⟨e, n, ds, r, q, h⟩ => by
  cases q with
  | nil => exact ⟨rfl, h σ H (.refl _ σ) (.refl H) r⟩
  | cons a b => exact bad_elim h
theorem p_gsc {e : Expr} {es : List Expr} {g1 g2 : List Nat} {a : D → En → T En} {b : List D → En → T En} (h1 : PG X e (tg g g1 a)) (h2 : PGs X es (tgs g g2 b))
    (hs : (assignEach (e :: es) X.env).map (·.2) = assign e X.env :: (assignEach es X.env).map (·.2) := by rfl) : PGs X (e :: es) (tgs g (g1 ++ g2) (gsC a b)) :=
  (pgs_cons h1 h2 hs).imp fun vs σ H Q ⟨e, n, ds, r, q, h⟩ => by
    cases q with
    | nil => exact bad_elim h
    | cons q1 q2 =>
      refine ⟨_, _, rfl, e, n, _, r, q1, T.wp_mono (T.wp_bind.mp h) (fun e' m z σ' H' s x r' => ?_) fun _ _ z => z⟩
      exact ⟨e', m, _, r', q2.ext x, T.wp_mono z (fun e2 m2 z σ2 H2 s2 x2 r2 => z σ2 H2 (s.trans s2) (x.trans x2) r2) fun _ _ => Px.to x⟩
theorem p_gt {es : List Expr} {k : Nat} {n : Nat} {gs : List Nat} {b : List D → En → T En} {pos : Pos} (hK : X.K = g.K) (hc : X.calm = true) (h : PGs X es (tgs g gs b))
    (hn : (assignEach es X.env).length = n := by rfl) (hst : (assignEach es X.env).findIdx? (·.1) = none := by rfl) : PG X (.Tuple es k pos) (tg g gs (gT n b)) :=
  (pg_tup hc h hn hst).imp fun v σ H Q ⟨e, m, d, r, q, h⟩ => by
    cases q with
    | tup a l q =>
      unfold gT at h
      dsimp only at h
      split at h
      · rename_i hl
        exact ⟨_, _, rfl, by rw [hK]; exact a, by rw [q.len]; exact hl, e, m, _, r, q, h⟩
      · exact bad_elim h
    | _ => exact bad_elim h
end
/-! ### statements -/
inductive Fl where
  | nx (e : En)
  | rt (d : D)
  | bk (e : En)
  | ct (e : En)
def Pf (g : G) (H : Hp) (Z : Ends) : Fl → Nat → Prop
  | .nx e, n => ∀ σ' H', Ext g.mv H H' → Rp g σ' H' e n → Z.nx σ' H'
  | .bk e, n => ∀ σ' H', Ext g.mv H H' → Rp g σ' H' e n → Z.bk σ' H'
  | .ct e, n => ∀ σ' H', Ext g.mv H H' → Rp g σ' H' e n → Z.ct σ' H'
  | .rt d, n => ∀ v H', Ext g.mv H H' → Stt g H' n → Dq g H' v d → Z.rt v H'
theorem Pf.tov {g : G} {H H' : Hp} {Z : Ends} (x : Ext g.mv H H') {f : Fl} {n : Nat} (h : Pf g H Z f n) : Pf g H' Z f n := by
  cases f with
  | nx e => exact fun σ H2 a => h σ H2 (x.trans a)
  | bk e => exact fun σ H2 a => h σ H2 (x.trans a)
  | ct e => exact fun σ H2 a => h σ H2 (x.trans a)
  | rt d => exact fun σ H2 a => h σ H2 (x.trans a)
theorem wpf_tov {g : G} {H H' : Hp} (x : Ext g.mv H H') {t : T Fl} {n : Nat} {Z : Ends} (h : t.wp n (Pf g H Z) (Px g H)) : t.wp n (Pf g H' Z) (Px g H') := T.wp_mono h (fun _ _ => Pf.tov x) fun _ _ => Px.tov x
theorem wpf_to {g : G} {H H' : Hp} (x : Ext g.sv H H') {t : T Fl} {n : Nat} {Z : Ends} (h : t.wp n (Pf g H Z) (Px g H)) : t.wp n (Pf g H' Z) (Px g H') := wpf_tov (Ext.m x) h
def ts (g : G) (s : En → T Fl) : TS := fun Z σ H => ∃ e n, Rp g σ H e n ∧ (s e).wp n (Pf g H Z) (Px g H)
section
variable {X : Cx} {g : G}
def sNx : En → T Fl := fun e => .ok (.nx e)
def sqK (t : En → T Fl) : Fl → T Fl
  | .nx e => t e
  | f => .ok f
def sSq (s t : En → T Fl) : En → T Fl := fun e => (s e).bind (sqK t)
theorem p_snil : PSs X [] (ts g sNx) := pss_nil.imp fun Z σ H ⟨e, n, r, h⟩ => h σ H (.refl H) r
theorem p_scons {st : Stmt} {rest : List Stmt} {s t : En → T Fl} (h1 : PS X st (ts g s)) (h2 : PSs X rest (ts g t)) : PSs X (st :: rest) (ts g (sSq s t)) :=
  (pss_cons h1 h2).imp fun Z σ H ⟨e, n, r, h⟩ => by
    refine ⟨e, n, r, T.wp_mono (T.wp_bind.mp h) (fun f m z => ?_) fun _ _ z => z⟩
    cases f with
    | nx e' => exact fun σ' H' x r' => ⟨e', m, r', wpf_tov x z⟩
    | rt d => exact z
    | bk e' => exact z
    | ct e' => exact z
theorem p_sone {st : Stmt} {s : En → T Fl} (h1 : PS X st (ts g s)) : PSs X [st] (ts g s) := pss_one h1
def sIf (c : En → T Bool) (s t : En → T Fl) : En → T Fl := fun e => (c e).bind fun b => if b = true then s e else t e
theorem p_if {c : Expr} {a b : List Stmt} {fc : En → T Bool} {s t : En → T Fl} {pos : Pos} (hc : PT X c (tt g fc)) (ha : PSs X a (ts g s)) (hb : PSs X b (ts g t)) : PS X (.If c a b pos) (ts g (sIf fc s t)) :=
  (ps_if hc ha hb).imp fun Z σ H ⟨e, n, r, h⟩ => by
    refine tt_step r h fun d m H1 x1 r1 h1 => ?_
    cases d with
    | true => exact ⟨e, m, r1, wpf_to x1 h1⟩
    | false => exact ⟨e, m, r1, wpf_to x1 h1⟩
def sSet (i : Nat) (f : En → T D) : En → T Fl := fun e => (f e).bind fun d => .ok (.nx (e.set i (some d)))
theorem p_set {i : Nat} {x : Str} {a : Expr} {f : En → T D} {pos pos' : Pos} (hN : X.N.Nodup) (hi : X.N[i]? = some x) (hx : Loc X.env.scope x) (ha : PE X a (te g f)) (hs : swapsWith a (some (.Name x pos')) pos.line X.env = pure false := by rfl) (hf : X.fn x = true ∨ X.env.scope.names.lookup x = some .local := by first | exact .inl rfl | exact .inr rfl | assumption) :
    PS X (.Assign [.Name x pos'] a pos) (ts g (sSet i f)) :=
  (ps_set hN hi hx ha hs hf).imp fun Z σ H ⟨e, n, r, h⟩ => te_step r h fun d m v H1 x1 r1 q1 h1 => h1 _ H1 (Ext.m x1) (r1.set q1 i)
def sAsg (f : En → T D) (gt : D → En → T En) : En → T Fl := fun e => (f e).bind fun d => (gt d e).bind fun e' => .ok (.nx e')
theorem p_asg {t a : Expr} {f : En → T D} {gs : List Nat} {gt : D → En → T En} {pos : Pos} (ha : PE X a (te g f)) (hg : PG X t (tg g gs gt)) (hs : swapsWithSole [t] a pos.line X.env = pure false := by rfl) (hw : swappedStores [t] a X.env = pure none := by rfl)
    (h1 : (assignEach [t] X.env).map (·.2) = [assign t X.env] := by rfl) : PS X (.Assign [t] a pos) (ts g (sAsg f gt)) :=
  (ps_asg ha hg hs hw h1).imp fun Z σ H ⟨e, n, r, h⟩ => te_step r h fun d m v H1 x1 r1 q1 h1 =>
    ⟨e, m, d, r1, q1, T.wp_mono (T.wp_bind.mp h1) (fun e' m' z σ' H' _ x r' => z σ' H' (Ext.m (x1.trans x)) r') fun _ _ => Px.to x1⟩
def sRet (f : En → T D) : En → T Fl := fun e => (f e).bind fun d => .ok (.rt d)
theorem p_ret {a : Expr} {f : En → T D} {pos : Pos} (ha : PE X a (te g f)) : PS X (.Return (some a) pos) (ts g (sRet f)) :=
  (ps_ret ha).imp fun Z σ H ⟨e, n, r, h⟩ => te_step r h fun d m v H1 x1 r1 q1 h1 => h1 v H1 (Ext.m x1) r1.ok.st q1
def sRetN : En → T Fl := fun _ => .ok (.rt .none)
theorem p_retN {pos : Pos} : PS X (.Return none pos) (ts g sRetN) := ps_retN.imp fun Z σ H ⟨e, n, r, h⟩ => h _ H (.refl H) r.ok.st .non
def sDrop (f : En → T D) : En → T Fl := fun e => (f e).bind fun _ => .ok (.nx e)
theorem p_expr {a : Expr} {f : En → T D} {pos : Pos} (ha : PE X a (te g f)) (hs : swapsWith a none pos.line X.env = pure false := by rfl) : PS X (.Expr a pos) (ts g (sDrop f)) :=
  (ps_expr ha hs).imp fun Z σ H ⟨e, n, r, h⟩ => te_step r h fun d m v H1 x1 r1 q1 h1 => h1 σ H1 (Ext.m x1) r1
theorem p_pass {pos : Pos} : PS X (.Pass pos) (ts g sNx) := ps_pass.imp fun Z σ H ⟨e, n, r, h⟩ => h σ H (.refl H) r
theorem p_doc {x j pos pos'} : PS X (.Expr (.Constant (.str x) j pos) pos') (ts g sNx) := ps_doc.imp fun Z σ H ⟨e, n, r, h⟩ => h σ H (.refl H) r
def sBk : En → T Fl := fun e => .ok (.bk e)
def sCt : En → T Fl := fun e => .ok (.ct e)
theorem p_break {pos : Pos} : PS X (.Break pos) (ts g sBk) := ps_break.imp fun Z σ H ⟨e, n, r, h⟩ => h σ H (.refl H) r
theorem p_cont {pos : Pos} : PS X (.Continue pos) (ts g sCt) := ps_continue.imp fun Z σ H ⟨e, n, r, h⟩ => h σ H (.refl H) r
/-- a, b = x, y -/
def sPar (i j : Nat) (k : En → T (List D)) : En → T Fl := fun e => (k e).bind fun ds => match ds with
  | [a, b] => .ok (.nx ((e.set i (some a)).set j (some b)))
  | _ => .bad
theorem p_par {i j : Nat} {x y : Str} {a b : Expr} {k : En → T (List D)} {px py pt pos : Pos} {kt k2 pt2} (hc : X.calm = true) (hN : X.N.Nodup) (hi : X.N[i]? = some x) (hj : X.N[j]? = some y) (hij : i ≠ j)
    (hx : X.env.scope.names.lookup x = some .local) (hy : X.env.scope.names.lookup y = some .local) (ha : PA X [a, b] (ta g k)) (hs : swappedStores [Expr.Tuple [Expr.Name x px, Expr.Name y py] kt pt] (Expr.Tuple [a, b] k2 pt2) X.env = pure (some [x, y]) := by rfl) : PS X (.Assign [.Tuple [.Name x px, .Name y py] kt pt] (.Tuple [a, b] k2 pt2) pos) (ts g (sPar i j k)) :=
  (ps_par hc hN hi hj hij hx hy ha hs).imp fun Z σ H ⟨e, n, r, h⟩ => ta_step r h fun ds m vs H1 x1 r1 q1 h1 => by
    cases q1 with
    | nil => exact bad_elim h1
    | cons qa q1 =>
      cases q1 with
      | nil => exact bad_elim h1
      | cons qb q1 =>
        cases q1 with
        | nil => exact ⟨_, _, rfl, h1 _ H1 (Ext.m x1) ((r1.set qa i).set qb j)⟩
        | cons _ _ => exact bad_elim h1
/-! ### what is walked -/
structure Wk (g : G) (J : It) (ds : List D) (H1 : Hp) : Prop where
  len : ds.length ≤ sizeLine
  goes : ∀ i H, i < ds.length → Ext g.vol H1 H → J.go i H
  stops : ∀ H, Ext g.vol H1 H → J.stop ds.length H
  yields : ∀ i H x H' d, Ext g.vol H1 H → ds[i]? = some d → J.yld i H x H' → Ext [] H H' ∧ Dq g H' x d
structure WkA (g : G) (J : It) (ds : List D) (H : Hp) : Prop where
  base : Wk g J ds H
  add : ∀ a, H a = none → Wk (g.add a) J ds H
def ti (g : G) (fi : En → T (List D)) : TI := fun σ H R => ∃ e n, Rp g σ H e n ∧ (fi e).wp n (fun ds m => ∀ H' J, Ext g.sv H H' → Stt g H' m → WkA g J ds H' → R J H') (Px g H)
/-- list or tuple -/
def dSeq : D → T (List D)
  | .tuple ds => .ok ds
  | .list ds => .ok ds
  | _ => .bad
def iSeq (f : En → T D) : En → T (List D) := fun e => (f e).bind dSeq
theorem Wk.tup {H : Hp} {a : Addr} {xs : List V} {ds : List D} (h : SqT g.K H a xs) (hl : ds.length ≤ sizeLine) (q : Dqs g H xs ds) : Wk g (Itt g.K a) ds H := by
  have w := walk_tup (K := g.K) (a := a) (xs := xs)
  refine ⟨hl, fun i H' hi x => w.goes i H' (by rw [q.len]; exact hi) (x.tup h), fun H' x => by rw [← q.len]; exact w.stops H' (x.tup h), fun i H' v H'' d x hd y => ?_⟩
  have hi : i < xs.length := by rw [q.len]; exact (List.getElem?_eq_some_iff.mp hd).1
  obtain ⟨rfl, hv⟩ := w.yields i H' v H'' hi (x.tup h) y
  refine ⟨.refl _, ?_⟩
  obtain ⟨v', e1, q1⟩ := q.get hd
  rw [hv] at e1
  cases e1
  exact Dq.extv x _ _ q1
theorem Wk.lst {H : Hp} {a : Addr} {xs : List V} {ds : List D} (hv : a ∉ g.vol) (h : H a = some (.lst xs)) (hl : ds.length ≤ sizeLine) (q : Dqs g H xs ds) : Wk g (Itl g.K a) ds H := by
  have w := walk_list (K := g.K) (a := a) (xs := xs)
  have hh : ∀ H', Ext g.vol H H' → SqL g.K H' a xs := fun H' x => .of (x.own hv h (fun _ z => by cases z))
  refine ⟨hl, fun i H' hi x => w.goes i H' (by rw [q.len]; exact hi) (hh H' x), fun H' x => by rw [← q.len]; exact w.stops H' (hh H' x), fun i H' v H'' d x hd y => ?_⟩
  have hi : i < xs.length := by rw [q.len]; exact (List.getElem?_eq_some_iff.mp hd).1
  obtain ⟨rfl, hv⟩ := w.yields i H' v H'' hi (hh H' x) y
  refine ⟨.refl _, ?_⟩
  obtain ⟨v', e1, q1⟩ := q.get hd
  rw [hv] at e1
  cases e1
  exact Dq.extv x _ _ q1
theorem WkA.tup {H : Hp} {a : Addr} {xs : List V} {ds : List D} (h : SqT g.K H a xs) (hl : ds.length ≤ sizeLine) (q : Dqs g H xs ds) : WkA g (Itt g.K a) ds H := ⟨.tup h hl q, fun b hb => Wk.tup (g := g.add b) h hl (Dqs.add hb _ _ q)⟩
theorem WkA.lst {H : Hp} {a : Addr} {xs : List V} {ds : List D} (hv : a ∉ g.vol) (h : H a = some (.lst xs)) (hl : ds.length ≤ sizeLine) (q : Dqs g H xs ds) : WkA g (Itl g.K a) ds H :=
  ⟨.lst hv h hl q, fun b hb => Wk.lst (g := g.add b) (G.vol_add.mpr ⟨hv, fun z => by rw [z, hb] at h; cases h⟩) h hl (Dqs.add hb _ _ q)⟩
def iSeqA (K : PySem.W.Frag) (tl : TE) : TI := fun σ H R => tl σ H fun x H1 => (∃ a, x = .ref a ∧ (∃ xs, SqT K H1 a xs) ∧ R (Itt K a) H1) ∨ (∃ a, x = .ref a ∧ (∃ xs, SqL K H1 a xs) ∧ R (Itl K a) H1)
theorem pi_seqA {t l : Expr} {tl : TE} (hl : PE X l tl) : PI X t l (iSeqA X.K tl) := by
  refine ⟨fun pins s σ H R I h => ?_⟩
  refine thn (hl.run pins s σ H _ I h) fun v s1 ⟨x, H1, I1, r1, q1⟩ => ?_
  rcases q1 with ⟨a, e, ⟨xs, hq⟩, q⟩ | ⟨a, e, ⟨xs, hq⟩, q⟩
  · subst e
    cases r1
    obtain ⟨its, rv, p, hz⟩ := I1.tuple hq
    refine wpAny_pyIter_tuple (show s1.heap.IsTuple a its.toArray from p) ?_
    refine ⟨s1.heap.objs.size, [s1.heap.objs.size], _, _, H1, rfl, I1.kept (t' := s1.toks) fun b o e => Heap.get?_push_of_some _ e, turn_tuple a _, ⟨_, Heap.get?_push_size _ rfl, rfl, rfl⟩, fun b hb => ?_, q⟩
    have e : b = s1.heap.objs.size := by simpa using hb
    subst e
    exact I1.fpOk (Nat.le_refl _) (I1.hok.fresh (Nat.le_refl _))
  · subst e
    cases r1
    obtain ⟨its, rv, p, hz⟩ := I1.list hq
    refine wpAny_pyIter_list p.isList ?_
    refine ⟨s1.heap.objs.size, [s1.heap.objs.size], _, _, H1, rfl, I1.kept (t' := s1.toks) fun b o e => Heap.get?_push_of_some _ e, turn_list a _, ⟨_, Heap.get?_push_size _ rfl, rfl, rfl⟩, fun b hb => ?_, q⟩
    have e : b = s1.heap.objs.size := by simpa using hb
    subst e
    exact I1.fpOk (Nat.le_refl _) (I1.hok.fresh (Nat.le_refl _))
theorem p_iseq {t l : Expr} {f : En → T D} (hK : X.K = g.K) (hl : PE X l (te g f)) : PI X t l (ti g (iSeq f)) :=
  (pi_seqA hl).imp fun σ H R ⟨e, n, rp, h⟩ => te_step rp h fun d m v H1 x1 r1 q1 h1 => by
    cases q1 with
    | tup a l q => exact .inl ⟨_, rfl, ⟨_, by rw [hK]; exact a⟩, h1 H1 _ x1 r1.ok.st (by rw [hK]; exact WkA.tup a l q)⟩
    | lst nv a l q => exact .inr ⟨_, rfl, ⟨_, .of a⟩, h1 H1 _ x1 r1.ok.st (by rw [hK]; exact WkA.lst nv a l q)⟩
    | _ => exact bad_elim h1
/-- range -/
def rgD (a b : Int) : List D := (List.range (b - a).toNat).map fun i => .int (a + (i : Nat))
def cRg (i : Int) : Bool := decide (-1000000 ≤ i) && decide (i ≤ 1000000)
def dRg1 : List D → T (List D)
  | [.int j] => if cRg j = true then .ok (rgD 0 j) else .bad
  | _ => .bad
def dRg2 : List D → T (List D)
  | [.int i, .int j] => if (cRg i && cRg j) = true then .ok (rgD i j) else .bad
  | _ => .bad
theorem Wk.rng {H : Hp} {a b : Int} (hl : b - a ≤ 2000000) : Wk g (Itr a (b - a).toNat) (rgD a b) H := by
  have w := walk_range (lo := a) (n := (b - a).toNat)
  refine ⟨by simp only [rgD, List.length_map, List.length_range, sizeLine_eq]; omega, fun i H' hi x => w.goes i H' (by simpa [rgD] using hi) trivial, fun H' x => by simpa [rgD] using w.stops H' trivial, fun i H' v H'' d x hd y => ?_⟩
  have hi : i < (b - a).toNat := by simpa [rgD] using (List.getElem?_eq_some_iff.mp hd).1
  obtain ⟨rfl, hv⟩ := w.yields i H' v H'' hi trivial y
  refine ⟨.refl _, ?_⟩
  have : d = .int (a + (i : Nat)) := by
    unfold rgD at hd
    rw [List.getElem?_map, List.getElem?_range hi] at hd
    simpa using hd.symm
  rw [hv, this]
  exact .int _
theorem WkA.rng {H : Hp} {a b : Int} (hl : b - a ≤ 2000000) : WkA g (Itr a (b - a).toNat) (rgD a b) H := ⟨.rng hl, fun c _ => Wk.rng (g := g.add c) hl⟩
def iRg (c : List D → T (List D)) (k : En → T (List D)) : En → T (List D) := fun e => (k e).bind c
theorem p_irg1 {t a : Expr} {k : En → T (List D)} {p pos : Pos} (hg : Gl X "range") (hm : X.mg "range" = none) (ha : PA X [a] (ta g k)) (hs : starEach [a] X.env = [(false, eval a X.env)] := by rfl) : PI X t (.Call (.Name "range" p) [a] [] pos) (ti g (iRg dRg1 k)) :=
  (pi_range1 hg hm ha hs).imp fun σ H R ⟨e, n, rp, h⟩ => ta_step rp h fun ds m vs H1 x1 r1 q1 h1 => by
    cases q1 with
    | nil => exact bad_elim h1
    | cons qa q1 =>
      cases q1 with
      | cons _ _ => cases qa <;> exact bad_elim h1
      | nil =>
        cases qa with
        | int j =>
          unfold dRg1 at h1
          dsimp only at h1
          split at h1
          · rename_i hh
            simp only [cRg, Bool.and_eq_true, decide_eq_true_eq] at hh
            refine ⟨j, rfl, by omega, by omega, ?_⟩
            have := h1 H1 _ x1 r1.ok.st (WkA.rng (a := 0) (b := j) (by omega))
            simpa using this
          · exact bad_elim h1
        | _ => exact bad_elim h1
theorem p_irg2 {t a b : Expr} {k : En → T (List D)} {p pos : Pos} (hg : Gl X "range") (hm : X.mg "range" = none) (ha : PA X [a, b] (ta g k)) (hs : starEach [a, b] X.env = [(false, eval a X.env), (false, eval b X.env)] := by rfl) (hs2 : starEach [b] X.env = [(false, eval b X.env)] := by rfl) : PI X t (.Call (.Name "range" p) [a, b] [] pos) (ti g (iRg dRg2 k)) :=
  (pi_range2 hg hm ha hs hs2).imp fun σ H R ⟨e, n, rp, h⟩ => ta_step rp h fun ds m vs H1 x1 r1 q1 h1 => by
    cases q1 with
    | nil => exact bad_elim h1
    | cons qa q1 =>
      cases q1 with
      | nil => cases qa <;> exact bad_elim h1
      | cons qb q1 =>
        cases q1 with
        | cons _ _ => cases qa <;> first | exact bad_elim h1 | (cases qb <;> exact bad_elim h1)
        | nil =>
          cases qa with
          | int i =>
            cases qb with
            | int j =>
              unfold dRg2 at h1
              dsimp only at h1
              split at h1
              · rename_i hh
                simp only [cRg, Bool.and_eq_true, decide_eq_true_eq] at hh
                exact ⟨i, j, rfl, ⟨by omega, by omega, by omega, by omega⟩, h1 H1 _ x1 r1.ok.st (WkA.rng (a := i) (b := j) (by omega))⟩
              · exact bad_elim h1
            | _ => exact bad_elim h1
          | _ => exact bad_elim h1
/-- for -/
def forL (gt : D → En → T En) (b : En → T Fl) : List D → En → T Fl
  | [], e => .ok (.nx e)
  | x :: xs, e => (gt x e).bind fun e1 => (b e1).bind fun f => match f with
    | .nx e2 => forL gt b xs e2
    | .ct e2 => forL gt b xs e2
    | .bk e2 => .ok (.nx e2)
    | .rt d => .ok (.rt d)
def sFor (fi : En → T (List D)) (gt : D → En → T En) (b : En → T Fl) : En → T Fl := fun e => (fi e).bind fun ds => forL gt b ds e
theorem p_for {t iter : Expr} {body : List Stmt} {fi : En → T (List D)} {gs : List Nat} {gt : D → En → T En} {b : En → T Fl} {pos : Pos} (hp : PassesOwn (model X.prog X.w) X.A X.env X.xe) (hc : X.calm = true) (hi : PI X t iter (ti g fi)) (hg : PG X t (tg g gs gt)) (hb : PSs X body (ts g b))
    (hs : ∀ x, foldedSetIterable iter X.env x = pure x := by intro _; rfl) : PS X (.For t iter body [] pos) (ts g (sFor fi gt b)) :=
  (ps_for hp hc hi hg hb hs).imp fun Z σ H ⟨e, n, rp, h⟩ => by
    refine ⟨e, n, rp, T.wp_mono (T.wp_bind.mp h) (fun ds m z H1 J x1 s1 w => ?_) fun _ _ z => z⟩
    have w := w.base
    have z := wpf_to x1 z
    refine ⟨fun i k σ' H' => k = ds.length - i ∧ i ≤ ds.length ∧ Ext g.mv H1 H' ∧ ∃ e' n', Rp g σ' H' e' n' ∧ (forL gt b (ds.drop i) e').wp n' (Pf g H' Z) (Px g H'), ⟨ds.length, by simp, Nat.zero_le _, .refl _, e, m, rp.to x1 s1, z⟩, ?_⟩
    rintro i k σ' H' ⟨rfl, hi, x, e', n', r', z'⟩
    by_cases hlt : i < ds.length
    · refine .inr ⟨w.goes i H' hlt (Ext.mv s1.ow x), fun σ'' H'' => i + 1 ≤ ds.length ∧ Ext g.mv H1 H'' ∧ ∃ e' n', Rp g σ'' H'' e' n' ∧ (forL gt b (ds.drop (i + 1)) e').wp n' (Pf g H'' Z) (Px g H''), fun σ'' H'' ⟨a1, a2, a3⟩ => ⟨ds.length - (i + 1), by omega, rfl, a1, a2, a3⟩, fun y H'' hy => ?_⟩
      obtain ⟨xe, qd⟩ := w.yields i H' y H'' _ (Ext.mv s1.ow x) (List.getElem?_eq_getElem hlt) hy
      have xs : Ext g.sv H' H'' := xe.any
      have xv : Ext g.mv H' H'' := xe.any
      rw [List.drop_eq_getElem_cons hlt] at z'
      have r'' := r'.to xs (r'.ok.st.ext xe)
      refine ⟨e', n', _, r'', qd, T.wp_mono (T.wp_bind.mp z') (fun e1 m1 z1 σ2 H2 _ x2 r2 => ?_) fun _ _ => Px.tov xv⟩
      have xx := xv.trans (Ext.m x2)
      refine ⟨e1, m1, r2, T.wp_mono (T.wp_bind.mp z1) (fun f m2 z2 => ?_) fun _ _ => Px.tov xx⟩
      cases f with
      | nx e2 => exact fun σ3 H3 x3 r3 => ⟨hlt, (x.trans xx).trans x3, e2, m2, r3, wpf_tov (xx.trans x3) z2⟩
      | ct e2 => exact fun σ3 H3 x3 r3 => ⟨hlt, (x.trans xx).trans x3, e2, m2, r3, wpf_tov (xx.trans x3) z2⟩
      | bk e2 => exact fun σ3 H3 x3 r3 => z2 σ3 H3 (xx.trans x3) r3
      | rt d => exact fun v H3 x3 s3 q3 => z2 v H3 (xx.trans x3) s3 q3
    · have e0 : i = ds.length := by omega
      subst e0
      rw [List.drop_length] at z'
      exact .inl ⟨w.stops H' (Ext.mv s1.ow x), z' σ' H' (.refl _) r'⟩
end
end PL
set_option Elab.async false
set_option linter.all false
set_option maxRecDepth 100000
set_option maxHeartbeats 4000000
namespace PL
open PySem L2 G9 GxR
section
variable {X : Cx} {g : G}
/-! ### items, slices -/
def oIx : D → D → T D
  | .tuple ds, .int i => match atI ds i with
    | some d => .ok d
    | none => .bad
  | .list ds, .int i => match atI ds i with
    | some d => .ok d
    | none => .bad
  | _, _ => .bad
def rIxA (K : PySem.W.Frag) : R2 := fun x y H Q => rIxT K x y H Q ∨ rIxL K x y H Q
theorem ix_A : IxR X (rIxA X.K) := ix_tup.or ix_list
theorem Dqs.atI {H : Hp} {vs : List V} {ds : List D} {i : Int} {d : D} (q : Dqs g H vs ds) (h : atI ds i = some d) : ∃ v, L2.atI vs i = some v ∧ Dq g H v d := by
  unfold L2.atI at h ⊢
  rw [q.len]
  cases e : ixN ds.length i with
  | none => rw [e] at h; cases h
  | some j => rw [e] at h; exact q.get h
theorem o_ix (hK : X.K = g.K) : Op2 g (rIxA X.K) oIx := by
  intro H n v u x y Q o qx qy h
  cases qx with
  | tup a l q =>
    cases qy with
    | int i =>
      rename_i t xs ds
      have h : (match atI ds i with
        | some d => (T.ok d : T D)
        | none => .bad).wp n (Pd g H Q) (Px g H) := h
      cases e : atI ds i with
      | none => rw [e] at h; exact bad_elim h
      | some d =>
        rw [e] at h
        obtain ⟨v, hv, qd⟩ := q.atI e
        exact .inl ⟨_, _, i, v, rfl, rfl, by rw [hK]; exact a, hv, Pd.here o qd h⟩
    | _ => exact bad_elim h
  | lst nv a l q =>
    cases qy with
    | int i =>
      rename_i t xs ds
      have h : (match atI ds i with
        | some d => (T.ok d : T D)
        | none => .bad).wp n (Pd g H Q) (Px g H) := h
      cases e : atI ds i with
      | none => rw [e] at h; exact bad_elim h
      | some d =>
        rw [e] at h
        obtain ⟨v, hv, qd⟩ := q.atI e
        exact .inr ⟨_, _, i, v, rfl, rfl, .of a, hv, Pd.here o qd h⟩
    | _ => exact bad_elim h
  | _ => cases qy <;> exact bad_elim h
theorem p_ix {a b : Expr} {fa fb : En → T D} {pos : Pos} (hK : X.K = g.K) (ha : PE X a (te g fa)) (hb : PE X b (te g fb)) (hs : PlainIx b := by intro _ _; rfl) : PE X (.Subscript a b pos) (te g (f2 oIx fa fb)) :=
  (pe_ix ix_A ha hb hs).imp fun σ H Q h => p_op2 (o_ix hK) h
/-- bounds of a slice -/
def fo0 : En → T (Option Int) := fun _ => .ok none
def asI : D → T (Option Int)
  | .int i => .ok (some i)
  | _ => .bad
def fo1 (f : En → T D) : En → T (Option Int) := fun e => (f e).bind asI
def to (g : G) (f : En → T (Option Int)) : TO := fun σ H Q => ∃ e n, Rp g σ H e n ∧ (f e).wp n (fun o m => ∀ H', Ext g.sv H H' → Stt g H' m → Q o H') (Px g H)
theorem _root_.L2.PO.imp {X : Cx} {e : Option Expr} {t t' : TO} (h : PO X e t) (w : ∀ σ H Q, t' σ H Q → t σ H Q) : PO X e t' := ⟨fun pins s σ H Q I q => h.run pins s σ H Q I (w σ H Q q)⟩
theorem p_o0 : PO X none (to g fo0) := po_none.imp fun σ H Q ⟨e, n, r, h⟩ => h H (.refl H) r.ok.st
theorem p_o1 {a : Expr} {f : En → T D} (ha : PE X a (te g f)) : PO X (some a) (to g (fo1 f)) :=
  (po_some ha).imp fun σ H Q ⟨e, n, r, h⟩ => te_step r h fun d m v H1 x1 r1 q1 h1 => by
    cases q1 with
    | int i => exact ⟨i, rfl, h1 H1 x1 r1.ok.st⟩
    | _ => exact bad_elim h1
def cutD (ds : List D) (lo hi : Option Int) : List D := (ds.drop (HT.sIx ds.length 0 lo)).take (HT.sIx ds.length ds.length hi - HT.sIx ds.length 0 lo)
def oSl : D → Option Int → Option Int → T D
  | .tuple ds, lo, hi => .ok (.tuple (cutD ds lo hi))
  | .list ds, lo, hi => .ok (.list (cutD ds lo hi))
  | _, _, _ => .bad
def rSlB (K : PySem.W.Frag) : V → Option Int → Option Int → Hp → VK → Prop := fun x lo hi H Q => rSlA K x lo hi H Q ∨ rSlL K x lo hi H Q
theorem sl_B : SlR X (rSlB X.K) := sl_tupA.or sl_list
theorem Dqs.cut {H : Hp} {vs : List V} {ds : List D} (q : Dqs g H vs ds) (lo hi : Option Int) : Dqs g H (cutV vs lo hi) (cutD ds lo hi) := by
  unfold cutV cutD
  rw [q.len]
  exact (q.drop _).take _
theorem cutD_len (ds : List D) (lo hi : Option Int) : (cutD ds lo hi).length ≤ ds.length := by
  unfold cutD
  rw [List.length_take, List.length_drop]
  omega
def fSl (f : En → T D) (lo hi : En → T (Option Int)) : En → T D := fun e => (f e).bind fun d => (lo e).bind fun l => (hi e).bind fun h => oSl d l h
theorem p_sl {a : Expr} {lo hi : Option Expr} {f : En → T D} {fl fh : En → T (Option Int)} {p2 pos : Pos} (hK : X.K = g.K) (ha : PE X a (te g f)) (hl : PO X lo (to g fl)) (hh : PO X hi (to g fh)) : PE X (.Subscript a (.Slice lo hi none p2) pos) (te g (fSl f fl fh)) :=
  (pe_slice sl_B ha hl hh).imp fun σ H Q ⟨e, n, rp, h⟩ => te_step rp h fun d m v H1 x1 r1 q1 h1 => by
    refine ⟨e, m, r1, T.wp_mono (T.wp_bind.mp h1) (fun l m2 h2 H2 x2 s2 => ?_) fun _ _ => Px.to x1⟩
    have r2 := r1.to x2 s2
    refine ⟨e, m2, r2, T.wp_mono (T.wp_bind.mp h2) (fun u m3 h3 H3 x3 s3 => ?_) fun _ _ => Px.to (x1.trans x2)⟩
    have r3 := r2.to x3 s3
    have x13 := x1.trans (x2.trans x3)
    have q3 := (q1.ext x2).ext x3
    cases q3 with
    | @tup a0 xs0 ds0 a' len q =>
      refine .inl ⟨a0, xs0, rfl, by rw [hK]; exact a', fun z => ?_, fun _ p hp => ?_⟩
      · obtain ⟨z1, z2⟩ := z
        refine h3 _ H3 x13 s3 ?_
        have : cutD ds0 l u = ds0 := by
          unfold cutD
          rw [q.len] at z1 z2
          rw [z1, z2, List.drop_zero, Nat.sub_zero, List.take_length]
        rw [this]
        exact .tup a' len q
      · exact h3 _ _ (x13.trans (Ext.new hp)) (s3.ext (Ext.new hp)) (.tup SqT.new (Nat.le_trans (cutD_len _ _ _) len) ((q.cut l u).ext (Ext.new hp)))
    | lst nv a' len q =>
      refine .inr ⟨_, _, rfl, .of a', fun p hp => ?_⟩
      exact h3 _ _ (x13.trans (Ext.new hp)) (s3.ext (Ext.new hp)) (.lst (s3.fresh hp) upd_same (Nat.le_trans (cutD_len _ _ _) len) ((q.cut l u).ext (Ext.new hp)))
    | _ => exact bad_elim h3
/-! ### chains a < b < c -/
theorem ch_core {r r' : R2} {o o' : D → D → T D} {fa fb fc : En → T D} (ho : Op2 g r o) (ho' : Op2 g r' o') {σ : L2.St} {H : Hp} {Q : VK} (h : te g (oCh o o' fa fb fc) σ H Q) : tChain r r' (te g fa) (te g fb) (te g fc) σ H Q := by
  obtain ⟨e, n, rp, h⟩ := h
  refine te_step rp h fun d m v H1 x1 r1 q1 h1 => ?_
  refine te_step r1 (T.wp_mono h1 (fun _ _ z => z) fun _ _ => Px.to x1) fun d2 m2 v2 H2 x2 r2 q2 h2 => ?_
  refine ho H2 m2 v v2 d d2 _ r2.ok (q1.ext x2) q2 (T.wp_mono (T.wp_bind.mp h2) (fun z m3 h3 v3 H3 x3 s3 q3 => ?_) fun _ _ => Px.to x2)
  have x13 := (x1.trans x2).trans x3
  have r3 := r2.to x3 s3
  cases q3 with
  | bl k =>
    refine ⟨k, rfl, ?_⟩
    cases k with
    | false => exact h3 _ H3 x13 s3 (.bl _)
    | true =>
      refine te_step r3 (T.wp_mono h3 (fun _ _ z => z) fun _ _ => Px.to (x2.trans x3)) fun d4 m4 v4 H4 x4 r4 q4 h4 => ?_
      exact ho' H4 m4 v2 v4 d2 d4 Q r4.ok ((q2.ext x3).ext x4) q4 (T.wp_mono h4 (fun _ _ => Pd.to (x13.trans x4)) fun _ _ => Px.to x4)
  | _ => exact bad_elim h3
theorem p_chain {op op' : CmpOp} {r r' : R2} {o o' : D → D → T D} {a b c : Expr} {fa fb fc : En → T D} {pos : Pos} (hr : OpR X (compareOp op) r) (hr' : OpR X (compareOp op') r') (ho : Op2 g r o) (ho' : Op2 g r' o') (ha : PE X a (te g fa)) (hb : PE X b (te g fb)) (hc : PE X c (te g fc))
    (hm : lastMarks [op, op'] [b, c] = false := by rfl) : PE X (.Compare a [op, op'] [b, c] pos) (te g (oCh o o' fa fb fc)) :=
  (pe_chain hr hr' ha hb hc hm).imp fun σ H Q h => ch_core ho ho' h
theorem p_tchain {op op' : CmpOp} {r r' : R2} {o o' : D → D → T D} {a b c : Expr} {fa fb fc : En → T D} {pos : Pos} (hr : OpR X (compareOp op) r) (hr' : OpR X (compareOp op') r') (ho : Op2 g r o) (ho' : Op2 g r' o') (ha : PE X a (te g fa)) (hb : PE X b (te g fb)) (hc : PE X c (te g fc))
    (hm : lastMarks [op, op'] [b, c] = false := by rfl) : PT X (.Compare a [op, op'] [b, c] pos) (tt g (fB (oCh o o' fa fb fc))) :=
  (pt_chain hr hr' ha hb hc hm).imp fun σ H Q h => ch_core ho ho' (te_asB h)
end
end PL
set_option Elab.async false
set_option linter.all false
set_option maxRecDepth 100000
set_option maxHeartbeats 4000000
namespace PL
open PySem L2 G9 GxR
theorem fre_none {H : Hp} {p : Addr} (h : H p = none) : (∀ o, H p = some o → ¬ NoTbl o) ∧ ¬ TabG H p := by
  refine ⟨fun o e => ?_, fun t => ?_⟩
  · rw [h] at e
    cases e
  · obtain ⟨ps, e, _⟩ := t
    rw [h] at e
    cases e
/-- the list that is being made changes: what was ahead of it doesn't -/
theorem Ext.at1 {S : List Addr} {H H1 : Hp} (x : Ext S H H1) {p : Addr} {o : HO} (h : H p = none) : Ext S H (upd H1 p o) := by
  have h := fre_none h
  refine ⟨fun b u e n m => ?_, fun P t => ?_⟩
  · have hb : b ≠ p := fun z => by
      rw [z] at e
      exact h.1 u e m
    rw [upd_ne hb]
    exact x.1 b u e n m
  · have hb : P ≠ p := fun z => by
      rw [z] at t
      exact h.2 t
    obtain ⟨ps, e, r⟩ := x.2 P t
    exact ⟨ps, by rw [upd_ne hb]; exact e, r⟩
theorem Ext.putL {S : List Addr} {H : Hp} {p : Addr} {xs : List V} {o' : HO} (h : H p = some (.lst xs)) (hp : p ∈ S) : Ext S H (upd H p o') := Ext.put h (fun _ z => by cases z) (fun z => z) hp
section
variable {X : Cx} {g : G}
/-- a comprehension's turns, each from the same slots -/
def lcL (gt : D → En → T En) (c : En → T Bool) (f : En → T D) (e : En) : List D → T (List D)
  | [] => .ok []
  | x :: xs => (gt x e).bind fun e1 => (c e1).bind fun b => if b = true then (f e1).bind fun y => (lcL gt c f e xs).bind fun ys => .ok (y :: ys) else lcL gt c f e xs
def fLc (fi : En → T (List D)) (gt : D → En → T En) (c : En → T Bool) (f : En → T D) (vs : List Nat) : En → T D := fun e => (fi e).bind fun ds => (lcL gt c f (wipeE e vs) ds).bind fun ys => .ok (.list ys)
theorem Rp.add {σ : L2.St} {H H' : Hp} {e : En} {n n' : Nat} {a : Addr} (r : Rp g σ H e n) (ha : H a = none) (x : Ext g.sv H H') (s : Stt (g.add a) H' n') : Rp (g.add a) σ H' e n' :=
  ⟨⟨s, fun P h => x.2 P (r.ok.tb P h)⟩, r.len, fun i d q => let ⟨v, p1, p2⟩ := r.sl i d q; ⟨v, p1, (p2.add ha).ext x s.adsv⟩⟩
def bYes : En → T Bool := fun _ => .ok true
theorem p_tsn : PTs X [] (tt g bYes) := pts_nil.imp fun σ H Q ⟨e, n, r, h⟩ => h H (.refl H) r.ok.st
theorem p_ts1 {c : Expr} {f : En → T Bool} (h : PT X c (tt g f)) : PTs X [c] (tt g f) := pts_one h
/-- what stands while a list is made: it and its items; what is still to come -/
structure Mk (g : G) (H1 : Hp) (a : Addr) (H : Hp) (n : Nat) (acc : List D) : Prop where
  x : Ext g.sv H1 H
  s : Stt (g.add a) H n
  c : ∃ vs, H a = some (.lst vs) ∧ Dqs (g.add a) H vs acc ∧ acc.length ≤ sizeLine
theorem Mk.to {H1 H H' : Hp} {a : Addr} {n n' : Nat} {acc : List D} (m : Mk g H1 a H n acc) (ha : a ∉ g.sv) (x : Ext g.sv H H') (s : Stt (g.add a) H' n') : Mk g H1 a H' n' acc := by
  obtain ⟨vs, h1, h2, h3⟩ := m.c
  exact ⟨m.x.trans x, s, vs, x.own ha h1 (fun _ z => by cases z), h2.ext x, h3⟩
theorem Stt.upd {H : Hp} {a : Addr} {n : Nat} (s : Stt g H n) (ha : a ∉ g.s3) {o : HO} (hn : NoTbl o) (hf : ¬ Fix o) : Stt g (upd H a o) n := by
  refine ⟨?_, fun b hb => ⟨(s.ad b hb).1, ?_⟩, s.ow, s.one⟩
  · have s := s.sta
    unfold Sta at *
    cases e : g.st with
    | none => trivial
    | some p =>
      obtain ⟨d', c, l⟩ := p
      have hs : g.s3 = [d', c, l] := by unfold G.s3; rw [e]
      rw [e] at s
      rw [hs] at ha
      simp only [List.mem_cons, List.not_mem_nil, or_false, not_or] at ha
      obtain ⟨⟨cs, ls, i, k1, k2, k3, r⟩, p1, p2⟩ := s
      exact ⟨⟨cs, ls, i, by rw [upd_ne (Ne.symm ha.1)]; exact k1, by rw [upd_ne (Ne.symm ha.2.1)]; exact k2, by rw [upd_ne (Ne.symm ha.2.2)]; exact k3, r⟩, p1, p2⟩
  · by_cases z : b = a
    · subst z; exact ⟨_, upd_same, hn, hf⟩
    · obtain ⟨o, k, r⟩ := (s.ad b hb).2
      exact ⟨o, by rw [upd_ne z]; exact k, r⟩
theorem Mk.push {H1 H : Hp} {a : Addr} {n : Nat} {acc : List D} (m : Mk g H1 a H n acc) (h1 : H1 a = none) (ha : a ∉ g.s3) {v : V} {d : D} (q : Dq (g.add a) H v d) (hl : acc.length < sizeLine) :
    ∃ vs, H a = some (.lst vs) ∧ vs.length < sizeLine ∧ Mk g H1 a (upd H a (.lst (vs ++ [v]))) n (acc ++ [d]) := by
  obtain ⟨vs, e1, e2, e3⟩ := m.c
  have hx : Ext (g.add a).vol H (upd H a (.lst (vs ++ [v]))) := Ext.putL e1 (by simp [G.vol, G.add])
  exact ⟨vs, e1, by rw [e2.len]; exact hl, Ext.at1 m.x h1, m.s.upd ha (fun _ z => by cases z) (fun z => z), vs ++ [v], upd_same, (Dqs.extv hx _ _ e2).app (.cons (Dq.extv hx _ _ q) .nil), by simp; omega⟩
theorem Px.add {H H' : Hp} {a : Addr} {e : Ex} {n : Nat} (hw : ∀ p ∈ g.ow, p.2 ∈ g.ad) (x : Ext g.sv H H') (h : Px g H e n) : Px (g.add a) H' e n := fun c d H2 y s z => h c d H2 ((Ext.m x).trans y) (s.sub hw) z
/-- a list comprehension of one clause: what becomes of the new list is told last -/
theorem lc_imp {fi : En → T (List D)} {gs : List Nat} {gt : D → En → T En} {c : En → T Bool} {f : En → T D} {vs0 : List Nat} (hgs : ∀ i ∈ gs, i ∈ vs0) {σ : L2.St} {H : Hp} {Q : VK} (h : ∃ e n, Rp g σ H e n ∧ ((fi e).bind fun ds => lcL gt c f (wipeE e vs0) ds).wp n (fun ys m => ∀ a H1 H' vs k, ys.length ≤ sizeLine → Ext g.sv H H1 → Stt g H1 k → H1 a = none → Ext g.sv H1 H' → Stt (g.add a) H' m → H' a = some (.lst vs) → Dqs (g.add a) H' vs ys → Q (.ref a) H') (Px g H)) :
    tLc (ti g fi) (fun v σ H Q => ∃ a, tg (g.add a) gs gt v σ H Q) (fun σ H Q => ∃ a, tt (g.add a) c σ H Q) (fun σ H Q => ∃ a, te (g.add a) f σ H Q) vs0 σ H Q := by
  obtain ⟨e, n, rp, h⟩ := h
  refine ⟨e, n, rp, T.wp_mono (T.wp_bind.mp h) (fun ds m z H1 J x1 s1 w1 a ha => ?_) fun _ _ z => z⟩
  have r1 := rp.to x1 s1
  have z := T.wp_mono z (fun _ _ z => z) fun _ _ => Px.to x1
  have h3 : a ∉ g.s3 := s1.freshS ha
  have hsv := G.of_s3 h3
  have w := w1.add a ha
  have base : ∀ H', Ext g.sv H1 H' → ∀ m', Stt (g.add a) H' m' → Rp (g.add a) (wipe σ vs0) H' (wipeE e vs0) m' := fun H' x m' s => (r1.add ha x s).wipe _
  refine ⟨fun i k H' => k = ds.length - i ∧ i ≤ ds.length ∧ ∃ acc m', Mk g H1 a H' m' acc ∧ acc.length ≤ i ∧ ((lcL gt c f (wipeE e vs0) (ds.drop i)).bind fun ys => .ok (acc ++ ys)).wp m' (fun ys m => ∀ a H1 H' vs k, ys.length ≤ sizeLine → Ext g.sv H H1 → Stt g H1 k → H1 a = none → Ext g.sv H1 H' → Stt (g.add a) H' m → H' a = some (.lst vs) → Dqs (g.add a) H' vs ys → Q (.ref a) H') (Px g H1), ⟨ds.length, by simp, Nat.zero_le _, [], m, ⟨Ext.at1 (.refl _) ha, ?_, [], upd_same, .nil, Nat.zero_le _⟩, Nat.le_refl _, by simpa only [List.drop_zero, List.nil_append, T.bind_ok] using z⟩, ?_⟩
  · exact (s1.upd h3 (o := .lst []) (fun _ z => by cases z) (fun z => z)).add h3 (s1.fresh ha) upd_same (fun _ z => by cases z) (fun z => z)
  rintro i k H' ⟨rfl, hi, acc, m', M, hacc, z'⟩
  by_cases hlt : i < ds.length
  · have hd := List.drop_eq_getElem_cons hlt
    refine .inr ⟨w.goes i H' hlt (Ext.v (g := g.add a) M.x), fun H'' => i + 1 ≤ ds.length ∧ ∃ acc m', Mk g H1 a H'' m' acc ∧ acc.length ≤ i + 1 ∧ ((lcL gt c f (wipeE e vs0) (ds.drop (i + 1))).bind fun ys => .ok (acc ++ ys)).wp m' (fun ys m => ∀ a H1 H' vs k, ys.length ≤ sizeLine → Ext g.sv H H1 → Stt g H1 k → H1 a = none → Ext g.sv H1 H' → Stt (g.add a) H' m → H' a = some (.lst vs) → Dqs (g.add a) H' vs ys → Q (.ref a) H') (Px g H1), fun H'' ⟨a1, a2⟩ => ⟨ds.length - (i + 1), by omega, rfl, a1, a2⟩, fun y H'' hy => ?_⟩
    obtain ⟨xe, qd⟩ := w.yields i H' y H'' _ (Ext.v (g := g.add a) M.x) (List.getElem?_eq_getElem hlt) hy
    have M2 := M.to hsv xe.any (M.s.ext xe)
    rw [hd] at z'
    simp only [lcL, T.bind_assoc] at z'
    refine ⟨a, wipeE e vs0, m', _, base H'' M2.x m' M2.s, qd, T.wp_mono (T.wp_bind.mp z') (fun e1 m1 z1 σ2 H2 sb x2 r2 => ?_) fun _ _ => Px.add s1.ow M2.x⟩
    have M3 := M2.to hsv x2 r2.ok.st
    refine ⟨sb.wipe hgs, a, e1, m1, r2, T.wp_mono (T.wp_bind.mp z1) (fun b m2 z2 H3 x3 s3 => ?_) fun _ _ => Px.add s1.ow M3.x⟩
    have M4 := M3.to hsv x3 s3
    have r3 := r2.to x3 s3
    cases b with
    | false => exact ⟨hlt, acc, m2, M4, by omega, z2⟩
    | true =>
      simp only [if_true, T.bind_assoc] at z2 ⊢
      refine ⟨a, e1, m2, r3, T.wp_mono (T.wp_bind.mp z2) (fun d m3 z3 v H4 x4 s4 q4 => ?_) fun _ _ => Px.add s1.ow M4.x⟩
      have M5 := M4.to hsv x4 s4
      obtain ⟨vs, e1, e2, M6⟩ := M5.push ha h3 q4 (by have := w.len; omega)
      refine ⟨vs, e1, e2, hlt, acc ++ [d], m3, M6, by simp; omega, ?_⟩
      simpa using z3
  · have e0 : i = ds.length := by omega
    subst e0
    rw [List.drop_length] at z'
    obtain ⟨vs, e1, e2, e3⟩ := M.c
    simp only [lcL, T.ok_bind, List.append_nil, T.wp] at z'
    exact .inl ⟨w.stops H' (Ext.v (g := g.add a) M.x), z' a H1 H' vs m e3 x1 s1 ha M.x M.s e1 e2⟩
theorem lc_gen  {elt t iter : Expr} {ifs : List Expr} {scope : Scope} {own : List (Str × Nat)} {pos : Pos} {fi : En → T (List D)} {gs : List Nat} {gt : D → En → T En} {c : En → T Bool} {f : En → T D} (hc : X.calm = true) (hN : X.N.Nodup) (hi : PI X t iter (ti g fi)) (ok : BlkOk X.N X.env.scope scope own)
    (hgs : ∀ i ∈ gs, i ∈ own.map (·.2))
    (hg : ∀ (a : Addr) (s : Shared) (H : Hp) (C : Addr) (cl : List (Str × Addr)) (fp : List Addr), PG (X.blk s H scope (compEnvC scope cl C X.env) fp) t (tg (g.add a) gs gt))
    (ht : ∀ (a : Addr) (s : Shared) (H : Hp) (C : Addr) (cl : List (Str × Addr)) (fp : List Addr), PTs (X.blk s H scope (compEnvC scope cl C X.env) fp) ifs (tt (g.add a) c))
    (he : ∀ (a : Addr) (s : Shared) (H : Hp) (C : Addr) (cl : List (Str × Addr)) (fp : List Addr), PE (X.blk s H scope (compEnvC scope cl C X.env) fp) elt (te (g.add a) f)) (hs : ∀ x, foldedSetIterable iter X.env x = pure x := by intro _; rfl) :
    PE X (.ListComp elt [⟨t, iter, ifs, 0⟩] scope pos) (fun σ H Q => ∃ e n, Rp g σ H e n ∧ ((fi e).bind fun ds => lcL gt c f (wipeE e (own.map (·.2))) ds).wp n (fun ys m => ∀ a H1 H' vs k, ys.length ≤ sizeLine → Ext g.sv H H1 → Stt g H1 k → H1 a = none → Ext g.sv H1 H' → Stt (g.add a) H' m → H' a = some (.lst vs) → Dqs (g.add a) H' vs ys → Q (.ref a) H') (Px g H)) := by
  refine (pe_lc (g := fun v σ H Q => ∃ a, tg (g.add a) gs gt v σ H Q) (tt := fun σ H Q => ∃ a, tt (g.add a) c σ H Q) (te := fun σ H Q => ∃ a, te (g.add a) f σ H Q) hc hN hi ok
    (fun s H C cl fp => ⟨fun pins s' σ H' v u Q I r ⟨a, q⟩ => (hg a s H C cl fp).run pins s' σ H' v u Q I r q⟩)
    (fun s H C cl fp => ⟨fun pins s' σ H' Q I ⟨a, q⟩ => (ht a s H C cl fp).run pins s' σ H' Q I q⟩)
    (fun s H C cl fp => ⟨fun pins s' σ H' Q I ⟨a, q⟩ => (he a s H C cl fp).run pins s' σ H' Q I q⟩) hs).imp fun σ H Q h => lc_imp hgs h
theorem lc_set {i : Nat} {y : Str} {py : Pos} {spos : Pos} {elt t iter : Expr} {ifs : List Expr} {scope : Scope} {own : List (Str × Nat)} {pos : Pos} {fi : En → T (List D)} {gs : List Nat} {gt : D → En → T En} {c : En → T Bool} {f : En → T D} (hc : X.calm = true) (hN : X.N.Nodup) (hy : X.N[i]? = some y) (hyl : X.env.scope.names.lookup y = some .local) (hsw : swapsWith (.ListComp elt [⟨t, iter, ifs, 0⟩] scope pos) (some (.Name y py)) spos.line X.env = pure true) (hi : PI X t iter (ti g fi)) (ok : BlkOk X.N X.env.scope scope own)
    (hgs : ∀ i ∈ gs, i ∈ own.map (·.2))
    (hg : ∀ (a : Addr) (s : Shared) (H : Hp) (C : Addr) (cl : List (Str × Addr)) (fp : List Addr), PG (X.blk s H scope (compEnvC scope cl C X.env) fp) t (tg (g.add a) gs gt))
    (ht : ∀ (a : Addr) (s : Shared) (H : Hp) (C : Addr) (cl : List (Str × Addr)) (fp : List Addr), PTs (X.blk s H scope (compEnvC scope cl C X.env) fp) ifs (tt (g.add a) c))
    (he : ∀ (a : Addr) (s : Shared) (H : Hp) (C : Addr) (cl : List (Str × Addr)) (fp : List Addr), PE (X.blk s H scope (compEnvC scope cl C X.env) fp) elt (te (g.add a) f)) (hs : ∀ x, foldedSetIterable iter X.env x = pure x := by intro _; rfl) :
    PS X (.Assign [.Name y py] (.ListComp elt [⟨t, iter, ifs, 0⟩] scope pos) spos) (tAsg (fun σ H Q => ∃ e n, Rp g σ H e n ∧ ((fi e).bind fun ds => lcL gt c f (wipeE e (own.map (·.2))) ds).wp n (fun ys m => ∀ a H1 H' vs k, ys.length ≤ sizeLine → Ext g.sv H H1 → Stt g H1 k → H1 a = none → Ext g.sv H1 H' → Stt (g.add a) H' m → H' a = some (.lst vs) → Dqs (g.add a) H' vs ys → Q (.ref a) H') (Px g H)) (gName i)) := by
  refine (ps_setLc (i := i) (g := fun v σ H Q => ∃ a, tg (g.add a) gs gt v σ H Q) (tt := fun σ H Q => ∃ a, tt (g.add a) c σ H Q) (te := fun σ H Q => ∃ a, te (g.add a) f σ H Q) hc hN hy hyl hsw hi ok
    (fun s H C cl fp => ⟨fun pins s' σ H' v u Q I r ⟨a, q⟩ => (hg a s H C cl fp).run pins s' σ H' v u Q I r q⟩)
    (fun s H C cl fp => ⟨fun pins s' σ H' Q I ⟨a, q⟩ => (ht a s H C cl fp).run pins s' σ H' Q I q⟩)
    (fun s H C cl fp => ⟨fun pins s' σ H' Q I ⟨a, q⟩ => (he a s H C cl fp).run pins s' σ H' Q I q⟩) hs).imp fun Z σ H h => lc_imp (Q := fun x H1 => gName i x σ H1 Z.nx) hgs h
/-- a list comprehension of one clause -/
theorem p_lc {elt t iter : Expr} {ifs : List Expr} {scope : Scope} {own : List (Str × Nat)} {pos : Pos} {fi : En → T (List D)} {gs : List Nat} {gt : D → En → T En} {c : En → T Bool} {f : En → T D} (hc : X.calm = true) (hN : X.N.Nodup) (hi : PI X t iter (ti g fi)) (ok : BlkOk X.N X.env.scope scope own)
    (hgs : ∀ i ∈ gs, i ∈ own.map (·.2))
    (hg : ∀ (a : Addr) (s : Shared) (H : Hp) (C : Addr) (cl : List (Str × Addr)) (fp : List Addr), PG (X.blk s H scope (compEnvC scope cl C X.env) fp) t (tg (g.add a) gs gt))
    (ht : ∀ (a : Addr) (s : Shared) (H : Hp) (C : Addr) (cl : List (Str × Addr)) (fp : List Addr), PTs (X.blk s H scope (compEnvC scope cl C X.env) fp) ifs (tt (g.add a) c))
    (he : ∀ (a : Addr) (s : Shared) (H : Hp) (C : Addr) (cl : List (Str × Addr)) (fp : List Addr), PE (X.blk s H scope (compEnvC scope cl C X.env) fp) elt (te (g.add a) f)) (hs : ∀ x, foldedSetIterable iter X.env x = pure x := by intro _; rfl) :
    PE X (.ListComp elt [⟨t, iter, ifs, 0⟩] scope pos) (te g (fLc fi gt c f (own.map (·.2)))) := by
  refine (lc_gen hc hN hi ok hgs hg ht he hs).imp fun σ H Q ⟨e, n, rp, h⟩ => ⟨e, n, rp, ?_⟩
  rw [show fLc fi gt c f (own.map (·.2)) e = ((fi e).bind fun ds => lcL gt c f (wipeE e (own.map (·.2))) ds).bind fun ys => .ok (.list ys) by unfold fLc; rw [T.bind_assoc]] at h
  exact T.wp_mono (T.wp_bind.mp h) (fun ys m z a H1 H' vs k hl x1 s1 ha x2 s2 e1 q => z _ H' (x1.trans x2) (s2.sub s1.ow) (.lst (s1.fresh ha) e1 hl (Dqs.sub _ _ q))) fun _ _ z => z
theorem p_setLc {i : Nat} {y : Str} {py : Pos} {spos : Pos} {elt t iter : Expr} {ifs : List Expr} {scope : Scope} {own : List (Str × Nat)} {pos : Pos} {fi : En → T (List D)} {gs : List Nat} {gt : D → En → T En} {c : En → T Bool} {f : En → T D} (hc : X.calm = true) (hN : X.N.Nodup) (hy : X.N[i]? = some y) (hyl : X.env.scope.names.lookup y = some .local) (hsw : swapsWith (.ListComp elt [⟨t, iter, ifs, 0⟩] scope pos) (some (.Name y py)) spos.line X.env = pure true) (hi : PI X t iter (ti g fi)) (ok : BlkOk X.N X.env.scope scope own)
    (hgs : ∀ i ∈ gs, i ∈ own.map (·.2))
    (hg : ∀ (a : Addr) (s : Shared) (H : Hp) (C : Addr) (cl : List (Str × Addr)) (fp : List Addr), PG (X.blk s H scope (compEnvC scope cl C X.env) fp) t (tg (g.add a) gs gt))
    (ht : ∀ (a : Addr) (s : Shared) (H : Hp) (C : Addr) (cl : List (Str × Addr)) (fp : List Addr), PTs (X.blk s H scope (compEnvC scope cl C X.env) fp) ifs (tt (g.add a) c))
    (he : ∀ (a : Addr) (s : Shared) (H : Hp) (C : Addr) (cl : List (Str × Addr)) (fp : List Addr), PE (X.blk s H scope (compEnvC scope cl C X.env) fp) elt (te (g.add a) f)) (hs : ∀ x, foldedSetIterable iter X.env x = pure x := by intro _; rfl) :
    PS X (.Assign [.Name y py] (.ListComp elt [⟨t, iter, ifs, 0⟩] scope pos) spos) (ts g (sSet i (fLc fi gt c f (own.map (·.2))))) := by
  refine (lc_set (i := i) hc hN hy hyl hsw hi ok hgs hg ht he hs).imp fun Z σ H ⟨e, n, rp, h⟩ => ⟨e, n, rp, ?_⟩
  rw [show sSet i (fLc fi gt c f (own.map (·.2))) e = ((fi e).bind fun ds => lcL gt c f (wipeE e (own.map (·.2))) ds).bind fun ys => .ok (.nx (e.set i (some (.list ys)))) by unfold sSet fLc; rw [T.bind_assoc, T.bind_assoc]; congr 1; funext ds; rw [T.bind_assoc]; rfl] at h
  exact T.wp_mono (T.wp_bind.mp h) (fun ys m z a H1 H' vs k hl x1 s1 ha x2 s2 e1 q => z _ H' (Ext.m (x1.trans x2)) ((rp.to (x1.trans x2) (s2.sub s1.ow)).set (.lst (s1.fresh ha) e1 hl (Dqs.sub _ _ q)) i)) fun _ _ z => z
end
end PL
set_option Elab.async false
set_option linter.all false
set_option maxRecDepth 100000
set_option maxHeartbeats 4000000
namespace PL
open PySem L2 G9 GxR
/-! ### type(x) is T -/
def tyD : D → Option String
  | .none => some "NoneType"
  | .bool _ => some "bool"
  | .int _ => some "int"
  | .str _ => some "str"
  | .list _ => some "list"
  | .tuple _ => some "tuple"
  | .dict _ => none
section
variable {X : Cx} {g : G}
theorem tyB_of {H : Hp} {v : V} {d : D} {t : String} (q : Dq g H v d) (h : tyD d = some t) : TyB g.K H v t := by
  cases q with
  | non => cases h; exact .non
  | bl b => cases h; exact .bl b
  | int i => cases h; exact .int i
  | str s => cases h; exact .str s
  | lst n a l q => cases h; exact .lst (.of a)
  | tup a l q => cases h; exact .tup a
  | st e => cases h
def oIsT (t : String) (neg : Bool) (d : D) : T D := match tyD d with
  | some u => .ok (.bool (if neg then !decide (u = t) else decide (u = t)))
  | none => .bad
theorem p_isT0 {a : Expr} {f : En → T D} {t : String} {p p2 p3 pos : Pos} {x : Str} (hK : X.K = g.K) (hg : Gl X "type") (hm : X.mg "type" = none) (hgx : Gl X x) (hmx : X.mg x = none) (hv : bootBuiltins x = some (.type t)) (ha : PE X a (te g f))
    (hn : x ≠ "__name__" := by decide) (hd : (x == ("__debug__" : Str)) = false := by decide) (he : starEach [a] X.env = (false, eval a X.env) :: starEach [] X.env := by rfl) : PE X (.Compare (.Call (.Name "type" p) [a] [] p2) [.Is] [.Name x p3] pos) (te g (f1 (oIsT t false) f)) :=
  (pe_cmpR op_isTyB (pe_callTy call_type1 hg hm PyProof.Rows.boot_type (pa_cons ha pa_nil he) (he := he)) (pe_bltn (v := .ty t) hgx hmx hv rfl hn hd) (nomark _)).imp fun σ H Q ⟨e, n, rp, h⟩ => te_step rp h fun d m v H1 x1 r1 q1 h1 => by
    unfold oIsT at h1
    cases ht : tyD d with
    | none => rw [ht] at h1; exact bad_elim h1
    | some u =>
      rw [ht] at h1
      exact ⟨v, u, rfl, by rw [hK]; exact tyB_of q1 ht, u, t, rfl, rfl, h1 _ H1 x1 r1.ok.st (.bl _)⟩
theorem p_isT1 {a : Expr} {f : En → T D} {t : String} {p p2 p3 pos : Pos} {x : Str} (hK : X.K = g.K) (hg : Gl X "type") (hm : X.mg "type" = none) (hgx : Gl X x) (hmx : X.mg x = none) (hv : bootBuiltins x = some (.type t)) (ha : PE X a (te g f))
    (hn : x ≠ "__name__" := by decide) (hd : (x == ("__debug__" : Str)) = false := by decide) (he : starEach [a] X.env = (false, eval a X.env) :: starEach [] X.env := by rfl) : PE X (.Compare (.Call (.Name "type" p) [a] [] p2) [.IsNot] [.Name x p3] pos) (te g (f1 (oIsT t true) f)) :=
  (pe_cmpR op_notTyB (pe_callTy call_type1 hg hm PyProof.Rows.boot_type (pa_cons ha pa_nil he) (he := he)) (pe_bltn (v := .ty t) hgx hmx hv rfl hn hd) (nomark _)).imp fun σ H Q ⟨e, n, rp, h⟩ => te_step rp h fun d m v H1 x1 r1 q1 h1 => by
    unfold oIsT at h1
    cases ht : tyD d with
    | none => rw [ht] at h1; exact bad_elim h1
    | some u =>
      rw [ht] at h1
      exact ⟨v, u, rfl, by rw [hK]; exact tyB_of q1 ht, u, t, rfl, rfl, h1 _ H1 x1 r1.ok.st (.bl _)⟩
/-- a value that is a truth, as a test -/
theorem p_tv {a : Expr} {f : En → T D} (ha : PE X a (te g f)) (he : ∀ whole, isTrue a X.env whole = (do let v ← whole; standAt a.pos; holding [v] (truthy v)) := by intro _; rfl) : PT X a (tt g (fB f)) :=
  (pt_val ha he).imp fun σ H Q h => te_asB h

/-! ### generators: what is said within -/
variable {P : Addr} {scope : Scope} {ns : List Str}
def gb (g : G) (f : List D → En → Option Bool) : GB := fun vs σ H k => ∃ e n ds, Rp g σ H e n ∧ Dqs g H vs ds ∧ f ds e = some k
theorem _root_.G9.GE.imp {e : Expr} {t t' : GV} (h : GE X P scope ns e t) (w : ∀ vs σ H v, t' vs σ H v → t vs σ H v) : GE X P scope ns e t' := ⟨fun pins σ H s I T vs us v r l q => h.run pins σ H s I T vs us v r l (w _ _ _ _ q)⟩
theorem _root_.G9.GT.imp {e : Expr} {t t' : GB} (h : GT X P scope ns e t) (w : ∀ vs σ H v, t' vs σ H v → t vs σ H v) : GT X P scope ns e t' := ⟨fun pins σ H s I T vs us v r l q => h.run pins σ H s I T vs us v r l (w _ _ _ _ q)⟩
theorem _root_.G9.GW.imp {e : Expr} {t t' : GB} (h : GW X P scope ns e t) (w : ∀ vs σ H v, t' vs σ H v → t vs σ H v) : GW X P scope ns e t' := ⟨fun pins σ H s I T vs us v r l q => h.run pins σ H s I T vs us v r l (w _ _ _ _ q)⟩
theorem _root_.G9.GTs.imp {e : List Expr} {t t' : GB} (h : GTs X P scope ns e t) (w : ∀ vs σ H v, t' vs σ H v → t vs σ H v) : GTs X P scope ns e t' := ⟨fun pins σ H s I T vs us v r l q => h.run pins σ H s I T vs us v r l (w _ _ _ _ q)⟩
/-- an expression within a generator: what it gives stands somewhere, and comes out -/
structure GD (X : Cx) (P : Addr) (scope : Scope) (ns : List Str) (g : G) (e : Expr) (f : List D → En → Option D) : Prop where
  ex : ∃ t, GE X P scope ns e t ∧ ∀ vs σ H en n ds d, Rp g σ H en n → Dqs g H vs ds → f ds en = some d → ∃ v, Dq g H v d ∧ t vs σ H v
def gLoc (j : Nat) : List D → En → Option D := fun ds _ => ds[j]?
def gFree (i : Nat) : List D → En → Option D := fun _ e => match e[i]? with
  | some (some d) => if isOwn d = true then none else some d
  | _ => none
def gInt (i : Int) : List D → En → Option D := fun _ _ => some (.int i)
theorem l_loc (j : Nat) {y : Str} {pos : Pos} (hn : ns[j]? = some y) (hl : scope.names.lookup y = some .local) (hd : (y == ("__debug__" : Str)) = false := by decide) : GD X P scope ns g (.Name y pos) (gLoc j) :=
  ⟨_, ge_loc j hn hl hd, fun vs σ H en n ds d r q h => let ⟨v, a, b⟩ := q.get h; ⟨v, b, a⟩⟩
theorem l_free (i : Nat) {y : Str} {pos : Pos} (hN : X.N[i]? = some y) (hl : scope.names.lookup y = some .free) (hv : X.env.scope.names.lookup y = some .cell) (hd : (y == ("__debug__" : Str)) = false := by decide) (hcd : (y == ("__classdict__" : Str)) = false := by decide) : GD X P scope ns g (.Name y pos) (gFree i) :=
  ⟨_, ge_free i hN hl hv hd hcd, fun vs σ H en n ds d r q h => by
    unfold gFree at h
    cases z : en[i]? with
    | none => rw [z] at h; cases h
    | some o =>
      cases o with
      | none => rw [z] at h; cases h
      | some d' =>
        rw [z] at h
        dsimp only at h
        split at h
        · cases h
        · rename_i hn
          cases h
          obtain ⟨v, a, b⟩ := r.sl i d z
          exact ⟨v, b.dq (by simpa using hn), a⟩⟩
theorem l_int {i : Int} {j : Nat} {pos : Pos} : GD X P scope ns g (.Constant (.int i) j pos) (gInt i) := ⟨_, ge_int, fun vs σ H en n ds d r q h => by cases h; exact ⟨_, .int i, rfl⟩⟩
def gIn (neg : Bool) (a b : List D → En → Option D) : List D → En → Option Bool := fun ds e => match a ds e, b ds e with
  | some x, some (.tuple ys) => if (flatD x && ys.all flatD) = true then some (if neg then !ys.any fun y => PyData.eqv y x else ys.any fun y => PyData.eqv y x) else none
  | some x, some (.list ys) => if (flatD x && ys.all flatD) = true then some (if neg then !ys.any fun y => PyData.eqv y x else ys.any fun y => PyData.eqv y x) else none
  | _, _ => none
theorem gIn_of {neg : Bool} {a b : List D → En → Option D} {ta tb : GV} (hK : X.K = g.K) (wa : ∀ vs σ H en n ds d, Rp g σ H en n → Dqs g H vs ds → a ds en = some d → ∃ v, Dq g H v d ∧ ta vs σ H v) (wb : ∀ vs σ H en n ds d, Rp g σ H en n → Dqs g H vs ds → b ds en = some d → ∃ v, Dq g H v d ∧ tb vs σ H v)
    {vs σ H k} (h : gb g (gIn neg a b) vs σ H k) : G9.gIn neg X.K ta tb vs σ H k := by
  obtain ⟨e, n, ds, r, q, h⟩ := h
  unfold gIn at h
  cases ea : a ds e with
  | none => rw [ea] at h; cases h
  | some x =>
    obtain ⟨v, qv, tv⟩ := wa vs σ H e n ds x r q ea
    cases eb : b ds e with
    | none => rw [ea, eb] at h; cases h
    | some y =>
      obtain ⟨u, qu, tu⟩ := wb vs σ H e n ds y r q eb
      rw [ea, eb] at h
      cases qu with
      | tup a l qs =>
        dsimp only at h
        split at h
        · rename_i hh
          simp only [Bool.and_eq_true] at hh
          refine ⟨v, _, _, tv, tu, .inr (by rw [hK]; exact a), flat_of qv hh.1, flats_of qs hh.2, ?_⟩
          rw [inV_eq qv hh.1 qs hh.2]
          exact (Option.some.inj h).symm
        · cases h
      | lst nv a l qs =>
        dsimp only at h
        split at h
        · rename_i hh
          simp only [Bool.and_eq_true] at hh
          refine ⟨v, _, _, tv, tu, .inl (.of a), flat_of qv hh.1, flats_of qs hh.2, ?_⟩
          rw [inV_eq qv hh.1 qs hh.2]
          exact (Option.some.inj h).symm
        · cases h
      | _ => cases h
theorem t_in {a b : Expr} {fa fb : List D → En → Option D} {pos : Pos} (hK : X.K = g.K) (ha : GD X P scope ns g a fa) (hb : GD X P scope ns g b fb) (h1 : behindInMarks .In b = false := by rfl) : GT X P scope ns (.Compare a [.In] [b] pos) (gb g (gIn false fa fb)) := by
  obtain ⟨ta, ga, wa⟩ := ha.ex
  obtain ⟨tb, gb', wb⟩ := hb.ex
  exact (gt_in ga gb' h1).imp fun vs σ H k h => gIn_of hK wa wb h
theorem t_notin {a b : Expr} {fa fb : List D → En → Option D} {pos : Pos} (hK : X.K = g.K) (ha : GD X P scope ns g a fa) (hb : GD X P scope ns g b fb) (h1 : behindInMarks .NotIn b = false := by rfl) : GT X P scope ns (.Compare a [.NotIn] [b] pos) (gb g (gIn true fa fb)) := by
  obtain ⟨ta, ga, wa⟩ := ha.ex
  obtain ⟨tb, gb', wb⟩ := hb.ex
  exact (gt_notIn ga gb' h1).imp fun vs σ H k h => gIn_of hK wa wb h
theorem v_in {a b : Expr} {fa fb : List D → En → Option D} {pos : Pos} (hK : X.K = g.K) (ha : GD X P scope ns g a fa) (hb : GD X P scope ns g b fb) (h1 : behindInMarks .In b = false := by rfl) : GE X P scope ns (.Compare a [.In] [b] pos) (gBl (gb g (gIn false fa fb))) := by
  obtain ⟨ta, ga, wa⟩ := ha.ex
  obtain ⟨tb, gb', wb⟩ := hb.ex
  exact (ge_in ga gb' h1).imp fun vs σ H k ⟨c, h, e⟩ => ⟨c, gIn_of hK wa wb h, e⟩
theorem v_notin {a b : Expr} {fa fb : List D → En → Option D} {pos : Pos} (hK : X.K = g.K) (ha : GD X P scope ns g a fa) (hb : GD X P scope ns g b fb) (h1 : behindInMarks .NotIn b = false := by rfl) : GE X P scope ns (.Compare a [.NotIn] [b] pos) (gBl (gb g (gIn true fa fb))) := by
  obtain ⟨ta, ga, wa⟩ := ha.ex
  obtain ⟨tb, gb', wb⟩ := hb.ex
  exact (ge_notIn ga gb' h1).imp fun vs σ H k ⟨c, h, e⟩ => ⟨c, gIn_of hK wa wb h, e⟩
def gEq (a b : List D → En → Option D) : List D → En → Option Bool := fun ds e => match a ds e, b ds e with
  | some (.int i), some (.int j) => some (decide (i = j))
  | _, _ => none
theorem t_eq {a b : Expr} {fa fb : List D → En → Option D} {pos : Pos} (ha : GD X P scope ns g a fa) (hb : GD X P scope ns g b fb) (h1 : behindInMarks .Eq b = false := by rfl) : GT X P scope ns (.Compare a [.Eq] [b] pos) (gb g (gEq fa fb)) := by
  obtain ⟨ta, ga, wa⟩ := ha.ex
  obtain ⟨tb, gb', wb⟩ := hb.ex
  refine (gt_eq ga gb' h1).imp fun vs σ H k ⟨e, n, ds, r, q, h⟩ => ?_
  unfold gEq at h
  cases ea : fa ds e with
  | none => rw [ea] at h; cases h
  | some x =>
    obtain ⟨v, qv, tv⟩ := wa vs σ H e n ds x r q ea
    cases eb : fb ds e with
    | none => rw [ea, eb] at h; cases qv <;> cases h
    | some y =>
      obtain ⟨u, qu, tu⟩ := wb vs σ H e n ds y r q eb
      rw [ea, eb] at h
      cases qv with
      | int i =>
        cases qu with
        | int j => exact ⟨i, j, tv, tu, (Option.some.inj h).symm⟩
        | _ => cases h
      | _ => cases h
def gAnd (a b : List D → En → Option Bool) : List D → En → Option Bool := fun ds e => (a ds e).bind fun c => if c = true then b ds e else some false
theorem gAnd_of {a b : List D → En → Option Bool} {vs σ H k} (h : gb g (gAnd a b) vs σ H k) : G9.gAnd (gb g a) (gb g b) vs σ H k := by
  obtain ⟨e, n, ds, r, q, h⟩ := h
  unfold gAnd at h
  cases ea : a ds e with
  | none => rw [ea] at h; cases h
  | some c =>
    rw [ea] at h
    refine ⟨c, ⟨e, n, ds, r, q, ea⟩, ?_⟩
    cases c with
    | true => exact ⟨e, n, ds, r, q, h⟩
    | false => exact (Option.some.inj h).symm
theorem w_and1 {a : Expr} {f : List D → En → Option Bool} {pos : Pos} (ha : GT X P scope ns a (gb g f)) : GW X P scope ns (.BoolOp .And [a] pos) (gb g f) := gw_and1 ha
theorem w_and {a b : Expr} {rest : List Expr} {f k : List D → En → Option Bool} {pos : Pos} (ha : GT X P scope ns a (gb g f)) (hb : GW X P scope ns (.BoolOp .And (b :: rest) pos) (gb g k)) : GW X P scope ns (.BoolOp .And (a :: b :: rest) pos) (gb g (gAnd f k)) := (gw_and ha hb).imp fun _ _ _ _ h => gAnd_of h
theorem v_and1 {a : Expr} {f : List D → En → Option Bool} {pos : Pos} (ha : GE X P scope ns a (gBl (gb g f))) : GE X P scope ns (.BoolOp .And [a] pos) (gBl (gb g f)) := ge_and1 ha
theorem v_and {a b : Expr} {rest : List Expr} {f k : List D → En → Option Bool} {pos : Pos} (ha : GE X P scope ns a (gBl (gb g f))) (hb : GE X P scope ns (.BoolOp .And (b :: rest) pos) (gBl (gb g k))) : GE X P scope ns (.BoolOp .And (a :: b :: rest) pos) (gBl (gb g (gAnd f k))) := (ge_and ha hb).imp fun _ _ _ _ ⟨c, h, e⟩ => ⟨c, gAnd_of h, e⟩
def gYes : List D → En → Option Bool := fun _ _ => some true
theorem ts_nil : GTs X P scope ns [] (gb g gYes) := gts_nil.imp fun _ _ _ k ⟨e, n, ds, r, q, h⟩ => (Option.some.inj h).symm
theorem ts_one {a : Expr} {f : List D → En → Option Bool} (ha : GT X P scope ns a (gb g f)) : GTs X P scope ns [a] (gb g f) := gts_one ha
/-- a truth as what is given -/
def gBv (f : List D → En → Option Bool) : List D → En → Option D := fun ds e => (f ds e).map .bool
theorem l_bool {e : Expr} {f : List D → En → Option Bool} (h : GE X P scope ns e (gBl (gb g f))) : GD X P scope ns g e (gBv f) := ⟨_, h, fun vs σ H en n ds d r q z => by
  unfold gBv at z
  cases k : f ds en with
  | none => rw [k] at z; cases z
  | some b => rw [k] at z; cases z; exact ⟨.bl b, .bl b, b, ⟨en, n, ds, r, q, k⟩, rfl⟩⟩
/-- type(x) is T -/
def gIsT (t : String) (neg : Bool) (f : List D → En → Option D) : List D → En → Option Bool := fun ds e => (f ds e).bind fun d => (tyD d).map fun u => if neg then !decide (u = t) else decide (u = t)
def tIsT (t : String) (neg : Bool) (K : PySem.W.Frag) (ta : GV) : GB := fun vs σ H k => ∃ x u, ta vs σ H x ∧ TyB K H x u ∧ (∀ kvs a, x = .ref a → H a ≠ some (.dK kvs)) ∧ k = (if neg then !decide (u = t) else decide (u = t))
theorem is_core {a : Expr} {ta : GV} {t : String} {neg : Bool} {p p2 p3 : Pos} {y : Str} (ha : GE X P scope ns a ta) (hs1 : scope.names.lookup ("type" : Str) = some .globalImplicit) (hm : X.mg "type" = none) (hs2 : scope.names.lookup y = some .globalImplicit) (hmy : X.mg y = none) (hv : bootBuiltins y = some (.type t))
    (hn : y ≠ "__name__") (hd : (y == ("__debug__" : Str)) = false) {pins σ H s} (I : Inv X pins σ H s) (T : TabG H P) {vs us k} (r : Vals vs us) (l : vs.length = ns.length) (q : tIsT t neg X.K ta vs σ H k)
    {cenv : Env} {A' : Around} {E' : Value → Shared → Prop} {s' : Shared} {m : Str → Option Value} (f : Gf X scope cenv) (n : s'.heap.Ns cenv.locals m) (hml : ∀ p ∈ ns.zip us, m p.1 = some p.2) (kp : Kp P s.heap s'.heap) {Q : Value → Shared → Prop}
    (he : starEach [a] cenv = (false, eval a cenv) :: starEach [] cenv) (hQ : ∀ s3, Keeps s' s3 → Q (.bool k) s3) :
    wpAny (model X.prog X.w) A' (eval (.Call (.Name "type" p) [a] [] p2) cenv) (fun v s₁ => wpAny (model X.prog X.w) A' (eval (.Name y p3) cenv) (fun u s₂ => wpAny (model X.prog X.w) A' (compareOp (if neg then .IsNot else .Is) v u) Q E' s₂) E' s₁) E' s' := by
  obtain ⟨x, u, qa, ty, ndk, rfl⟩ := q
  have hb : ∀ s2 : Shared, Kp P s.heap s2.heap → ∀ b o, X.base.get? b = some o → s2.heap.get? b = some o := fun s2 k2 b o e => by
    obtain ⟨e1, e2⟩ := I.bs b o e
    refine k2 b o (fun z => ?_) e1
    obtain ⟨ps, hP, _⟩ := T
    rw [← z, e2] at hP
    cases hP
  obtain ⟨mb, h1, h2⟩ := I.mod.blt
  have ld : ∀ {z : Str} {w : Value} {pz : Pos} {R : Value → Shared → Prop} (s2 : Shared), Kp P s.heap s2.heap → scope.names.lookup z = some .globalImplicit → X.mg z = none → bootBuiltins z = some w → z ≠ "__name__" → (z == ("__debug__" : Str)) = false → R w s2 →
      wpAny (model X.prog X.w) A' (eval (.Name z pz) cenv) R E' s2 := fun {z w pz R} s2 k2 hs hm hv hn hd h =>
    Calls.Name_function_global (by rw [f.sc]; exact f.kind) (show cenv.scope.names.lookup z = some .globalImplicit by rw [f.sc]; exact hs) (Calls.loadGlobal_builtin (by rw [f.glob, I.ok.glob]; exact I.mod.glob.keeps (hb s2 k2)) hm (by rw [f.blt]; exact h1.keeps (hb s2 k2)) ((h2 z hn).trans hv) h) hd
  refine wpAny_Call_Name_kw (ld s' kp hs1 hm PyProof.Rows.boot_type (by decide) (by decide) ?_)
  refine PyProof.Rows.callWith_type1 (PyProof.Rows.args_cons (wpAny_mono (ha.run pins σ H s I T vs us x r l qa cenv A' E' s' m f n hml kp) (fun v s1 ⟨rx, k1⟩ => PyProof.Rows.args_nil ?_) fun _ _ e => e) he) he rfl
  have kp1 := Keeps.kp k1 kp
  have ht : s1.TypeIs v u := by
    cases ty with
    | non => cases (show v = Value.none from rx); rfl
    | bl b => cases (show v = Value.bool b from rx); rfl
    | int i => obtain ⟨t, rfl⟩ := (show ∃ t, v = Value.int i t from rx); rfl
    | str x => obtain ⟨t, rfl⟩ := (show ∃ t, v = Value.str x t from rx); rfl
    | byt b => obtain ⟨t, rfl⟩ := (show ∃ t, v = Value.bytes b t from rx); exact PySem.W.typeIs_bytes _ _ _
    | @lst a xs h =>
      cases (show v = Value.ref a from rx)
      obtain ⟨its, rv, pl, hz⟩ := I.list h
      obtain ⟨o, ho, hc, rest⟩ := pl.isList
      exact ⟨o, kp1 a o (tup_ne (its := #[]) I T ⟨o, ho, by rw [hc]; simp⟩) ho, hc⟩
    | @tup a xs h =>
      cases (show v = Value.ref a from rx)
      obtain ⟨its, rv, ⟨o, ho, hc, _⟩, hz⟩ := I.tuple h
      exact ⟨o, kp1 a o (tup_ne (its := #[]) I T ⟨o, ho, by rw [hc]; simp⟩) ho, hc⟩
    | @dK a kvs h => exact absurd h (ndk kvs a rfl)
  refine call_type_of ht ty.nb (ld s1 kp1 hs2 hmy hv hn hd ?_)
  cases neg with
  | false => exact wpAny_is_plain rfl (by rw [ty_beq]; exact hQ s1 k1)
  | true => exact wpAny_isNot_plain rfl (by rw [ty_beq]; exact hQ s1 k1)
end
end PL
set_option Elab.async false
set_option linter.all false
set_option maxRecDepth 100000
set_option maxHeartbeats 4000000
namespace PL
open PySem L2 G9 GxR
section
variable {X : Cx} {g : G} {P : Addr} {scope : Scope} {ns : List Str}
/-- reading of type(x) is T within a generator, the value no dict of the layer -/
theorem isT_of {ta : GV} {fa : List D → En → Option D} {t : String} {neg : Bool} (hK : X.K = g.K) (wa : ∀ vs σ H en n ds d, Rp g σ H en n → Dqs g H vs ds → fa ds en = some d → ∃ v, Dq g H v d ∧ ta vs σ H v)
    {vs σ H k} (h : gb g (gIsT t neg fa) vs σ H k) : ∃ x u, ta vs σ H x ∧ TyB X.K H x u ∧ k = (if neg then !decide (u = t) else decide (u = t)) ∧ (∀ a, x = .ref a → (∃ xs, H a = some (.lst xs)) ∨ ∃ xs, SqT X.K H a xs) := by
  obtain ⟨e, n, ds, r, q, h⟩ := h
  unfold gIsT at h
  cases ea : fa ds e with
  | none => rw [ea] at h; cases h
  | some x =>
    obtain ⟨v, qv, tv⟩ := wa vs σ H e n ds x r q ea
    rw [ea] at h
    cases hx : tyD x with
    | none => rw [Option.bind_some, hx] at h; cases h
    | some u =>
      rw [Option.bind_some, hx] at h
      refine ⟨v, u, tv, by rw [hK]; exact tyB_of qv hx, (Option.some.inj h).symm, fun a ha => ?_⟩
      cases qv with
      | lst nv b l qq => cases ha; exact .inl ⟨_, b⟩
      | tup b l qq => cases ha; exact .inr ⟨_, by rw [hK]; exact b⟩
      | st e => cases hx
      | _ => cases ha
theorem not_dK {H : Hp} {s : Shared} {pins σ} (I : Inv X pins σ H s) {a : Addr} (h : (∃ xs, H a = some (.lst xs)) ∨ ∃ xs, SqT X.K H a xs) : ∀ kvs, H a ≠ some (.dK kvs) := fun kvs z => by
  rcases h with ⟨xs, e⟩ | ⟨xs, e⟩
  · rw [e] at z; cases z
  · obtain ⟨its, rv, ⟨o, ho, hc, _⟩, _⟩ := I.tuple e
    obtain ⟨_, _, vs, _, p⟩ := (show ObjOk X.prog X.w H s.heap a (.dK kvs) from I.hok a _ z)
    obtain ⟨o', ho', hc'⟩ := p.typeIs
    rw [ho] at ho'
    cases ho'
    rw [hc] at hc'
    exact absurd (Value.type.inj hc') (by decide)
theorem t_isT {a : Expr} {fa : List D → En → Option D} {t : String} {p p2 p3 pos : Pos} {y : Str} (hK : X.K = g.K) (ha : GD X P scope ns g a fa) (hs1 : scope.names.lookup ("type" : Str) = some .globalImplicit) (hm : X.mg "type" = none) (hs2 : scope.names.lookup y = some .globalImplicit) (hmy : X.mg y = none) (hv : bootBuiltins y = some (.type t))
    (hn : y ≠ "__name__" := by decide) (hd : (y == ("__debug__" : Str)) = false := by decide) (he : ∀ cenv, starEach [a] cenv = (false, eval a cenv) :: starEach [] cenv := by intro _; rfl) : GT X P scope ns (.Compare (.Call (.Name "type" p) [a] [] p2) [.Is] [.Name y p3] pos) (gb g (gIsT t false fa)) := by
  obtain ⟨ta, ga, wa⟩ := ha.ex
  refine ⟨fun pins σ H s I T vs us k r l q cenv A' E' s' m f n hml kp => ?_⟩
  obtain ⟨x, u, h1, h2, h3, h4⟩ := isT_of hK wa q
  exact wpAny_isTrue_Compare1 (is_core (neg := false) ga hs1 hm hs2 hmy hv hn hd I T r l ⟨x, u, h1, h2, fun kvs a e => not_dK I (h4 a e) kvs, h3⟩ f n hml kp (he cenv) fun s3 k3 => wpAny_truthy_bool ⟨rfl, k3⟩) rfl
theorem v_isT {a : Expr} {fa : List D → En → Option D} {t : String} {p p2 p3 pos : Pos} {y : Str} (hK : X.K = g.K) (ha : GD X P scope ns g a fa) (hs1 : scope.names.lookup ("type" : Str) = some .globalImplicit) (hm : X.mg "type" = none) (hs2 : scope.names.lookup y = some .globalImplicit) (hmy : X.mg y = none) (hv : bootBuiltins y = some (.type t))
    (hn : y ≠ "__name__" := by decide) (hd : (y == ("__debug__" : Str)) = false := by decide) (he : ∀ cenv, starEach [a] cenv = (false, eval a cenv) :: starEach [] cenv := by intro _; rfl) : GE X P scope ns (.Compare (.Call (.Name "type" p) [a] [] p2) [.Is] [.Name y p3] pos) (gBl (gb g (gIsT t false fa))) := by
  obtain ⟨ta, ga, wa⟩ := ha.ex
  refine ⟨fun pins σ H s I T vs us k r l q cenv A' E' s' m f n hml kp => ?_⟩
  obtain ⟨c, q, rfl⟩ := q
  obtain ⟨x, u, h1, h2, h3, h4⟩ := isT_of hK wa q
  exact wpAny_Compare1 (is_core (neg := false) ga hs1 hm hs2 hmy hv hn hd I T r l ⟨x, u, h1, h2, fun kvs a e => not_dK I (h4 a e) kvs, h3⟩ f n hml kp (he cenv) fun s3 k3 => ⟨rfl, k3⟩) rfl

/-! ### sources of generators -/
def ts2 (g : G) (f : En → T (List (D × D))) : TS2 := fun σ H R => ∃ e n, Rp g σ H e n ∧ (f e).wp n (fun ds m => ∀ ps H', Ext g.sv H H' → Stt g H' m → ps.length = ds.length → (∀ (i : Nat) (p : V × V) (d : D × D), ps[i]? = some p → ds[i]? = some d → Dq g H' p.1 d.1 ∧ Dq g H' p.2 d.2) → R ps H') (Px g H)
theorem _root_.G9.GS1.imp {iter : Expr} {t t' : TS1} (h : GS1 X iter t) (w : ∀ σ H R, t' σ H R → t σ H R) : GS1 X iter t' := ⟨fun pins s σ H R I q => h.run pins s σ H R I (w _ _ _ q)⟩
theorem _root_.G9.GS2.imp {iter : Expr} {t t' : TS2} (h : GS2 X iter t) (w : ∀ σ H R, t' σ H R → t σ H R) : GS2 X iter t' := ⟨fun pins s σ H R I q => h.run pins s σ H R I (w _ _ _ q)⟩
theorem s1_seq {iter : Expr} {f : En → T D} (hK : X.K = g.K) (h : PE X iter (te g f)) (hh : X.A.handled = none := by rfl) : GS1 X iter (ta g (iSeq f)) :=
  (gs_seq h hh).imp fun σ H R ⟨e, n, rp, h⟩ => te_step rp h fun d m v H1 x1 r1 q1 h1 => by
    cases q1 with
    | tup a l q => exact ⟨_, _, rfl, .inr (by rw [hK]; exact a), h1 _ H1 x1 r1.ok.st q⟩
    | lst nv a l q => exact ⟨_, _, rfl, .inl (.of a), h1 _ H1 x1 r1.ok.st q⟩
    | _ => exact bad_elim h1
def dRg0 : List D → T (List D)
  | [.int j] => if (decide (0 ≤ j) && decide (j ≤ 1000000)) = true then .ok (rgD 0 j) else .bad
  | _ => .bad
theorem s1_rng {a : Expr} {k : En → T (List D)} {p pos : Pos} (hg : Gl X "range") (hm : X.mg "range" = none) (ha : PA X [a] (ta g k)) (hs : starEach [a] X.env = [(false, eval a X.env)] := by rfl) : GS1 X (.Call (.Name "range" p) [a] [] pos) (ta g (iRg dRg0 k)) :=
  (gs_range1 hg hm ha hs).imp fun σ H R ⟨e, n, rp, h⟩ => ta_step rp h fun ds m vs H1 x1 r1 q1 h1 => by
    cases q1 with
    | nil => exact bad_elim h1
    | cons qa q1 =>
      cases q1 with
      | cons _ _ => cases qa <;> exact bad_elim h1
      | nil =>
        cases qa with
        | int j =>
          unfold dRg0 at h1
          dsimp only at h1
          split at h1
          · rename_i hh
            simp only [Bool.and_eq_true, decide_eq_true_eq] at hh
            obtain ⟨k, rfl⟩ := Int.eq_ofNat_of_zero_le hh.1
            refine ⟨k, rfl, by omega, h1 _ H1 x1 r1.ok.st ?_⟩
            refine Dqs.of_get (by simp [rgD]) fun i v d e1 e2 => ?_
            have hi : i < k := by have := (List.getElem?_eq_some_iff.mp e1).1; simpa using this
            simp only [rgD, List.getElem?_map, Int.sub_zero, Int.toNat_natCast, List.getElem?_range hi, Option.map_some, Option.some.injEq] at e1 e2
            rw [← e1, ← e2, Int.zero_add]
            exact .int _
          · exact bad_elim h1
        | _ => exact bad_elim h1
/-- a tuple of pairs -/
def prOf : List D → Option (List (D × D))
  | [] => some []
  | .tuple [a, b] :: ds => (prOf ds).map ((a, b) :: ·)
  | _ => none
def iPrs (f : En → T D) : En → T (List (D × D)) := fun e => (f e).bind fun d => match d with
  | .tuple ds => match prOf ds with
    | some ps => .ok ps
    | none => .bad
  | _ => .bad
theorem prs_of {H : Hp} : ∀ {vs : List V} {ds : List D} {ps : List (D × D)}, Dqs g H vs ds → prOf ds = some ps → ∃ (ts : List Addr) (qs : List (V × V)), vs = ts.map V.ref ∧ ts.length = qs.length ∧ qs.length = ps.length ∧ (∀ (j : Nat) (t : Addr) (p : V × V), ts[j]? = some t → qs[j]? = some p → SqT g.K H t [p.1, p.2]) ∧ (∀ (i : Nat) (p : V × V) (d : D × D), qs[i]? = some p → ps[i]? = some d → Dq g H p.1 d.1 ∧ Dq g H p.2 d.2)
  | _, [], ps, q, h => by
    cases q
    cases h
    exact ⟨[], [], rfl, rfl, rfl, fun _ _ _ h => by simp at h, fun _ _ _ h => by simp at h⟩
  | _, d :: ds, ps, q, h => by
    cases q with
    | cons qa q =>
      cases qa with
      | tup a l q2 =>
        cases q2 with
        | nil => cases h
        | cons x1 q2 =>
          cases q2 with
          | nil => cases h
          | cons x2 q2 =>
            cases q2 with
            | cons _ _ => cases h
            | nil =>
              rename_i va da vb db
              have h : (prOf ds).map ((da, db) :: ·) = some ps := h
              cases e : prOf ds with
              | none => rw [e] at h; cases h
              | some ps' =>
                rw [e] at h
                cases h
                obtain ⟨ts, qs, e1, e2, e3, e4, e5⟩ := prs_of q e
                refine ⟨_ :: ts, (va, vb) :: qs, by rw [e1]; rfl, by simp [e2], by simp [e3], fun j t p h1 h2 => ?_, fun j p d h1 h2 => ?_⟩
                · cases j with
                  | zero => simp at h1 h2; subst h1 h2; exact a
                  | succ j => exact e4 j t p (by simpa using h1) (by simpa using h2)
                · cases j with
                  | zero => simp at h1 h2; subst h1 h2; exact ⟨x1, x2⟩
                  | succ j => exact e5 j p d (by simpa using h1) (by simpa using h2)
      | _ => cases h
theorem s2_prs {iter : Expr} {f : En → T D} (hK : X.K = g.K) (h : PE X iter (te g f)) : GS2 X iter (ts2 g (iPrs f)) :=
  (gs_pairs h).imp fun σ H R ⟨e, n, rp, h⟩ => te_step rp h fun d m v H1 x1 r1 q1 h1 => by
    cases q1 with
    | tup a l q =>
      rename_i t xs ds
      have h1 : (match prOf ds with
        | some ps => (T.ok ps : T (List (D × D)))
        | none => .bad).wp m _ _ := h1
      cases e : prOf ds with
      | none => rw [e] at h1; exact bad_elim h1
      | some ps =>
        rw [e] at h1
        obtain ⟨ts, qs, rfl, e2, e3, e4, e5⟩ := prs_of q e
        exact ⟨_, qs, rfl, ⟨ts, by rw [hK]; exact a, e2, by rw [hK]; exact e4⟩, h1 qs H1 x1 r1.ok.st e3 e5⟩
    | _ => exact bad_elim h1
/-- enumerate(a tuple) -/
def iEnG (k : En → T (List D)) : En → T (List (D × D)) := fun e => (k e).bind fun ds => match ds with
  | [.tuple ds] => .ok (ds.zipIdx.map fun p => (.int (p.2 : Nat), p.1))
  | _ => .bad
theorem s2_enum {a : Expr} {k : En → T (List D)} {p pos : Pos} (hK : X.K = g.K) (hg : Gl X "enumerate") (hm : X.mg "enumerate" = none) (ha : PA X [a] (ta g k)) (hs : starEach [a] X.env = [(false, eval a X.env)] := by rfl) : GS2 X (.Call (.Name "enumerate" p) [a] [] pos) (ts2 g (iEnG k)) :=
  (gs_enum hg hm ha hs).imp fun σ H R ⟨e, n, rp, h⟩ => ta_step rp h fun ds m vs H1 x1 r1 q1 h1 => by
    cases q1 with
    | nil => exact bad_elim h1
    | cons qa q1 =>
      cases q1 with
      | cons _ _ => cases qa <;> exact bad_elim h1
      | nil =>
        cases qa with
        | tup a l q =>
          refine ⟨_, _, rfl, by rw [hK]; exact a, h1 _ H1 x1 r1.ok.st (by simp [q.len]) fun i p d e1 e2 => ?_⟩
          simp only [List.getElem?_map, List.getElem?_zipIdx, Option.map_map] at e1 e2
          rename_i xs ds
          cases ex : xs[i]? with
          | none => rw [ex] at e1; cases e1
          | some x =>
            cases ed : ds[i]? with
            | none => rw [ed] at e2; cases e2
            | some d' =>
              rw [ex] at e1
              rw [ed] at e2
              simp at e1 e2
              subst e1 e2
              obtain ⟨v', h1, h2⟩ := q.get ed
              rw [ex] at h1
              cases h1
              exact ⟨.int _, h2⟩
        | _ => exact bad_elim h1
/-! ### what is made of what comes -/
def genL (tst : List D → En → Option Bool) (elt : List D → En → Option D) (e : En) : List (List D) → Option (List D)
  | [] => some []
  | x :: xs => (tst x e).bind fun b => if b = true then (elt x e).bind fun y => (genL tst elt e xs).map (y :: ·) else genL tst elt e xs
def fG1 (kk : List D → T D) (fi : En → T (List D)) (tst : List D → En → Option Bool) (elt : List D → En → Option D) : En → T D := fun e => (fi e).bind fun xs => match genL tst elt e (xs.map fun x => [x]) with
  | some ys => kk ys
  | none => .bad
def fG2 (kk : List D → T D) (fi : En → T (List (D × D))) (tst : List D → En → Option Bool) (elt : List D → En → Option D) : En → T D := fun e => (fi e).bind fun xs => match genL tst elt e (xs.map fun x => [x.1, x.2]) with
  | some ys => kk ys
  | none => .bad
theorem genL_of {H : Hp} {σ : L2.St} {en : En} {n : Nat} {tst : List D → En → Option Bool} {elt : List D → En → Option D} {te : GV} (rp : Rp g σ H en n) (we : ∀ vs σ H en n ds d, Rp g σ H en n → Dqs g H vs ds → elt ds en = some d → ∃ v, Dq g H v d ∧ te vs σ H v) :
    ∀ (xss : List (List D)) (vss : List (List V)) (ys : List D), vss.length = xss.length → (∀ (i : Nat) (x : List D) (v : List V), xss[i]? = some x → vss[i]? = some v → Dqs g H v x) → genL tst elt en xss = some ys →
      ∃ (pz : Nat → Bool) (F : Nat → V), (∀ (i : Nat) (v : List V), vss[i]? = some v → gb g tst v σ H (pz i)) ∧ (∀ (i : Nat) (v : List V), vss[i]? = some v → pz i = true → te v σ H (F i)) ∧ Dqs g H (((List.range vss.length).filter pz).map F) ys
  | [], [], ys, _, _, h => by cases h; exact ⟨fun _ => false, fun _ => .non, fun _ _ h => by simp at h, fun _ _ h => by simp at h, .nil⟩
  | x :: xss, v :: vss, ys, hl, hq, h => by
    have q0 := hq 0 x v rfl rfl
    have hq' : ∀ (i : Nat) (x : List D) (v : List V), xss[i]? = some x → vss[i]? = some v → Dqs g H v x := fun i x v h1 h2 => hq (i + 1) x v (by simpa using h1) (by simpa using h2)
    unfold genL at h
    have re : ∀ (pz : Nat → Bool) (F : Nat → V) (b : Bool) (w : V), ((List.range (vss.length + 1)).filter fun i => match i with | 0 => b | i + 1 => pz i).map (fun i => match i with | 0 => w | i + 1 => F i) = (if b = true then [w] else []) ++ ((List.range vss.length).filter pz).map F := by
      intro pz F b w
      rw [List.range_succ_eq_map, List.filter_cons, List.filter_map]
      cases b <;> simp [Function.comp_def]
    cases hb : tst x en with
    | none => rw [hb] at h; cases h
    | some b =>
      rw [hb, Option.bind_some] at h
      cases b with
      | false =>
        obtain ⟨pz, F, h1, h2, h3⟩ := genL_of rp we xss vss ys (by simpa using hl) hq' h
        refine ⟨fun i => match i with | 0 => false | i + 1 => pz i, fun i => match i with | 0 => .non | i + 1 => F i, fun i w hw => ?_, fun i w hw hz => ?_, ?_⟩
        · cases i with
          | zero => simp at hw; subst hw; exact ⟨en, n, x, rp, q0, hb⟩
          | succ i => exact h1 i w (by simpa using hw)
        · cases i with
          | zero => cases hz
          | succ i => exact h2 i w (by simpa using hw) hz
        · rw [List.length_cons, re]; exact h3
      | true =>
        simp only [if_true] at h
        cases hy : elt x en with
        | none => rw [hy] at h; cases h
        | some y =>
          rw [hy, Option.bind_some] at h
          cases hr : genL tst elt en xss with
          | none => rw [hr] at h; cases h
          | some ys' =>
            rw [hr] at h
            cases h
            obtain ⟨w0, qw, tw⟩ := we v σ H en n x y rp q0 hy
            obtain ⟨pz, F, h1, h2, h3⟩ := genL_of rp we xss vss ys' (by simpa using hl) hq' hr
            refine ⟨fun i => match i with | 0 => true | i + 1 => pz i, fun i => match i with | 0 => w0 | i + 1 => F i, fun i w hw => ?_, fun i w hw hz => ?_, ?_⟩
            · cases i with
              | zero => simp at hw; subst hw; exact ⟨en, n, x, rp, q0, hb⟩
              | succ i => exact h1 i w (by simpa using hw)
            · cases i with
              | zero => simp at hw; subst hw; exact tw
              | succ i => exact h2 i w (by simpa using hw) hz
            · rw [List.length_cons, re]; exact .cons qw h3
  | [], _ :: _, _, hl, _, _ => by simp at hl
  | _ :: _, [], _, hl, _, _ => by simp at hl
/-- what a call makes of a generator's values -/
def Ek (g : G) (P : Addr) (R : L2.St → List V → Hp → VK → Prop) (kk : List D → T D) : Prop := ∀ σ H n L ys Q, Ok g H n → TabG H P → Dqs g H L ys → (kk ys).wp n (Pd g H Q) (Px g H) → R σ L H Q
theorem k_tup : Ek g P (rTup P) mkT := by
  intro σ H n L ys Q o hT q h
  unfold mkT at h
  split at h
  · rename_i hl
    refine ⟨by rw [q.len]; exact hl, fun H2 l ht hn => ?_⟩
    have x1 : Ext [] H H2 := Ext.tabbed hT ht
    have s2 := o.st.ext x1
    exact h _ _ (x1.any.trans (Ext.new hn)) (s2.ext (Ext.new hn)) (.tup SqT.new hl ((q.ext x1.any).ext (Ext.new hn)))
  · exact bad_elim h
def bsOf : List D → Option (List Bool)
  | [] => some []
  | .bool b :: ds => (bsOf ds).map (b :: ·)
  | _ => none
theorem bs_of {H : Hp} : ∀ {vs : List V} {ds : List D} {bs : List Bool}, Dqs g H vs ds → bsOf ds = some bs → vs = bs.map V.bl
  | _, [], bs, q, h => by cases q; cases h; rfl
  | _, d :: ds, bs, q, h => by
    cases q with
    | cons qa q =>
      cases qa with
      | bl b =>
        have h : (bsOf ds).map (b :: ·) = some bs := h
        cases e : bsOf ds with
        | none => rw [e] at h; cases h
        | some bs' => rw [e] at h; cases h; rw [bs_of q e]; rfl
      | _ => cases h
def mkAny (ys : List D) : T D := match bsOf ys with
  | some bs => .ok (.bool (bs.any id))
  | none => .bad
def mkAll (ys : List D) : T D := match bsOf ys with
  | some bs => .ok (.bool (bs.all id))
  | none => .bad
theorem k_any : Ek g P (rAnyG P) mkAny := by
  intro σ H n L ys Q o hT q h
  unfold mkAny at h
  cases e : bsOf ys with
  | none => rw [e] at h; exact bad_elim h
  | some bs =>
    rw [e] at h
    refine ⟨bs, bs_of q e, fun H2 ht => ?_⟩
    have x1 : Ext [] H H2 := Ext.tabbed hT ht
    exact h _ H2 x1.any (o.st.ext x1) (.bl _)
theorem k_all : Ek g P (rAllG P) mkAll := by
  intro σ H n L ys Q o hT q h
  unfold mkAll at h
  cases e : bsOf ys with
  | none => rw [e] at h; exact bad_elim h
  | some bs =>
    rw [e] at h
    refine ⟨bs, bs_of q e, fun H2 ht => ?_⟩
    have x1 : Ext [] H H2 := Ext.tabbed hT ht
    exact h _ H2 x1.any (o.st.ext x1) (.bl _)
theorem g1_imp {P : Addr} {fi : En → T (List D)} {tst : List D → En → Option Bool} {elt : List D → En → Option D} {te' : GV} {R : L2.St → List V → Hp → VK → Prop} {kk : List D → T D} (hP : P ∈ g.Ps) (E : Ek g P R kk)
    (we : ∀ vs σ H en n ds d, Rp g σ H en n → Dqs g H vs ds → elt ds en = some d → ∃ v, Dq g H v d ∧ te' vs σ H v) {σ : L2.St} {H : Hp} {Q : VK} (h : te g (fG1 kk fi tst elt) σ H Q) : tGen1i P (ta g fi) (gb g tst) te' R σ H Q := by
  obtain ⟨e, n, rp, h⟩ := h
  refine ta_step rp h fun ds m vs H1 x1 r1 q1 h1 => ?_
  have hT := r1.ok.tb P hP
  refine ⟨hT, ?_⟩
  cases hg : genL tst elt e (ds.map fun x => [x]) with
  | none => rw [hg] at h1; exact bad_elim h1
  | some ys =>
    rw [hg] at h1
    obtain ⟨pz, F, h2, h3, h4⟩ := genL_of r1 we (ds.map fun x => [x]) (vs.map fun v => [v]) ys (by simp [q1.len]) (fun i x v a b => by
      simp only [List.getElem?_map, Option.map_eq_some_iff] at a b
      obtain ⟨x', a1, rfl⟩ := a
      obtain ⟨v', b1, rfl⟩ := b
      obtain ⟨v2, c1, c2⟩ := q1.get a1
      rw [b1] at c1
      cases c1
      exact .cons c2 .nil) hg
    refine ⟨pz, F, fun i x hx => h2 i [x] (by simp [hx]), fun i x hx hz => h3 i [x] (by simp [hx]) hz, ?_⟩
    rw [List.length_map] at h4
    exact E σ H1 m _ ys Q r1.ok hT h4 (wp_to x1 h1)
theorem g2_imp {P : Addr} {fi : En → T (List (D × D))} {tst : List D → En → Option Bool} {elt : List D → En → Option D} {te' : GV} {R : L2.St → List V → Hp → VK → Prop} {kk : List D → T D} (hP : P ∈ g.Ps) (E : Ek g P R kk)
    (we : ∀ vs σ H en n ds d, Rp g σ H en n → Dqs g H vs ds → elt ds en = some d → ∃ v, Dq g H v d ∧ te' vs σ H v) {σ : L2.St} {H : Hp} {Q : VK} (h : te g (fG2 kk fi tst elt) σ H Q) : tGen2i P (ts2 g fi) (gb g tst) te' R σ H Q := by
  obtain ⟨e, n, rp, h⟩ := h
  refine ⟨e, n, rp, T.wp_mono (T.wp_bind.mp h) (fun ds m h1 vs H1 x1 s1 hlen hq => ?_) fun _ _ z => z⟩
  have r1 := rp.to x1 s1
  have hT := r1.ok.tb P hP
  refine ⟨hT, ?_⟩
  cases hg : genL tst elt e (ds.map fun x => [x.1, x.2]) with
  | none => rw [hg] at h1; exact bad_elim h1
  | some ys =>
    rw [hg] at h1
    obtain ⟨pz, F, h2, h3, h4⟩ := genL_of r1 we (ds.map fun x => [x.1, x.2]) (vs.map fun v => [v.1, v.2]) ys (by simp [hlen]) (fun i x v a b => by
      simp only [List.getElem?_map, Option.map_eq_some_iff] at a b
      obtain ⟨x', a1, rfl⟩ := a
      obtain ⟨v', b1, rfl⟩ := b
      obtain ⟨c1, c2⟩ := hq i v' x' b1 a1
      exact .cons c1 (.cons c2 .nil)) hg
    refine ⟨pz, F, fun i x hx => h2 i [x.1, x.2] (by simp [hx]), fun i x hx hz => h3 i [x.1, x.2] (by simp [hx]) hz, ?_⟩
    rw [List.length_map] at h4
    exact E σ H1 m _ ys Q r1.ok hT h4 (T.wp_mono h1 (fun _ _ => Pd.to x1) fun _ _ => Px.to x1)
end
end PL
set_option Elab.async false
set_option linter.all false
set_option maxRecDepth 100000
set_option maxHeartbeats 4000000
namespace PL
open PySem L2 G9 GxR
section
variable {X : Cx} {g : G}
/-! ### calls f(.. for ..) -/
variable {c P : Addr} {elt iter : Expr} {ifs : List Expr} {x xa xb : Str} {px pa pb pt p pos gpos : Pos} {kt : Nat} {scope : Scope} {k : Nat} {fn : Str} {R : Addr → L2.St → List V → Hp → VK → Prop} {kk : List D → T D} {fi : En → T (List D)} {fi2 : En → T (List (D × D))} {tst : List D → En → Option Bool} {fe : List D → En → Option D}
theorem p_g1T {T : String} (Ek' : Ek g P (R P) kk) (E : Eats X (.type T) R) (hP : P ∈ g.Ps) (hr : Room k X.A) (hg : Gl X fn) (hm : X.mg fn = none) (hb : bootBuiltins fn = some (.type T)) (TB : TabB X.base X.mg c P) (hcode : X.env.code = .ref c) (S : GenN X.env.scope scope [x]) (hi : GS1 X iter (ta g fi)) (hts : GTs X P scope [x] ifs (gb g tst)) (hel : GD X P scope [x] g elt fe)
    (hs : ∀ v, genFold iter X.env v = pure v := by intro _; rfl) (hn : fn ≠ "__name__" := by decide +kernel) (hd : (fn == ("__debug__" : Str)) = false := by decide +kernel)
    (he : starEach [.GeneratorExp elt [⟨.Name x px, iter, ifs, 0⟩] scope gpos] X.env = (false, eval (.GeneratorExp elt [⟨.Name x px, iter, ifs, 0⟩] scope gpos) X.env) :: starEach [] X.env := by rfl) :
    PE X (.Call (.Name fn p) [.GeneratorExp elt [⟨.Name x px, iter, ifs, 0⟩] scope gpos] [] pos) (te g (fG1 kk fi tst fe)) := by
  obtain ⟨te', ge, we⟩ := hel.ex
  exact (pe_g1Ti E hr hg hm hb TB hcode S hi hts ge hs hn hd he).imp fun σ H Q h => g1_imp hP Ek' we h
theorem p_g1B {T : String} (Ek' : Ek g P (R P) kk) (E : Eats X (.builtin T) R) (hP : P ∈ g.Ps) (hr : Room k X.A) (hg : Gl X fn) (hm : X.mg fn = none) (hb : bootBuiltins fn = some (.builtin T)) (TB : TabB X.base X.mg c P) (hcode : X.env.code = .ref c) (S : GenN X.env.scope scope [x]) (hi : GS1 X iter (ta g fi)) (hts : GTs X P scope [x] ifs (gb g tst)) (hel : GD X P scope [x] g elt fe)
    (hs : ∀ v, genFold iter X.env v = pure v := by intro _; rfl) (hn : fn ≠ "__name__" := by decide +kernel) (hd : (fn == ("__debug__" : Str)) = false := by decide +kernel)
    (he : starEach [.GeneratorExp elt [⟨.Name x px, iter, ifs, 0⟩] scope gpos] X.env = (false, eval (.GeneratorExp elt [⟨.Name x px, iter, ifs, 0⟩] scope gpos) X.env) :: starEach [] X.env := by rfl) :
    PE X (.Call (.Name fn p) [.GeneratorExp elt [⟨.Name x px, iter, ifs, 0⟩] scope gpos] [] pos) (te g (fG1 kk fi tst fe)) := by
  obtain ⟨te', ge, we⟩ := hel.ex
  exact (pe_g1Bi E hr hg hm hb TB hcode S hi hts ge hs hn hd he).imp fun σ H Q h => g1_imp hP Ek' we h
theorem p_g2T {T : String} (Ek' : Ek g P (R P) kk) (E : Eats X (.type T) R) (hP : P ∈ g.Ps) (hr : Room k X.A) (hg : Gl X fn) (hm : X.mg fn = none) (hb : bootBuiltins fn = some (.type T)) (TB : TabB X.base X.mg c P) (hcode : X.env.code = .ref c) (S : GenN X.env.scope scope [xa, xb]) (hi : GS2 X iter (ts2 g fi2)) (hts : GTs X P scope [xa, xb] ifs (gb g tst)) (hel : GD X P scope [xa, xb] g elt fe) (hab : xa ≠ xb)
    (hs : ∀ v, genFold iter X.env v = pure v := by intro _; rfl) (hn : fn ≠ "__name__" := by decide +kernel) (hd : (fn == ("__debug__" : Str)) = false := by decide +kernel)
    (he : starEach [.GeneratorExp elt [⟨.Tuple [.Name xa pa, .Name xb pb] kt pt, iter, ifs, 0⟩] scope gpos] X.env = (false, eval (.GeneratorExp elt [⟨.Tuple [.Name xa pa, .Name xb pb] kt pt, iter, ifs, 0⟩] scope gpos) X.env) :: starEach [] X.env := by rfl) :
    PE X (.Call (.Name fn p) [.GeneratorExp elt [⟨.Tuple [.Name xa pa, .Name xb pb] kt pt, iter, ifs, 0⟩] scope gpos] [] pos) (te g (fG2 kk fi2 tst fe)) := by
  obtain ⟨te', ge, we⟩ := hel.ex
  exact (pe_g2Ti E hr hg hm hb TB hcode S hi hts ge hab hs hn hd he).imp fun σ H Q h => g2_imp hP Ek' we h
theorem p_g2B {T : String} (Ek' : Ek g P (R P) kk) (E : Eats X (.builtin T) R) (hP : P ∈ g.Ps) (hr : Room k X.A) (hg : Gl X fn) (hm : X.mg fn = none) (hb : bootBuiltins fn = some (.builtin T)) (TB : TabB X.base X.mg c P) (hcode : X.env.code = .ref c) (S : GenN X.env.scope scope [xa, xb]) (hi : GS2 X iter (ts2 g fi2)) (hts : GTs X P scope [xa, xb] ifs (gb g tst)) (hel : GD X P scope [xa, xb] g elt fe) (hab : xa ≠ xb)
    (hs : ∀ v, genFold iter X.env v = pure v := by intro _; rfl) (hn : fn ≠ "__name__" := by decide +kernel) (hd : (fn == ("__debug__" : Str)) = false := by decide +kernel)
    (he : starEach [.GeneratorExp elt [⟨.Tuple [.Name xa pa, .Name xb pb] kt pt, iter, ifs, 0⟩] scope gpos] X.env = (false, eval (.GeneratorExp elt [⟨.Tuple [.Name xa pa, .Name xb pb] kt pt, iter, ifs, 0⟩] scope gpos) X.env) :: starEach [] X.env := by rfl) :
    PE X (.Call (.Name fn p) [.GeneratorExp elt [⟨.Tuple [.Name xa pa, .Name xb pb] kt pt, iter, ifs, 0⟩] scope gpos] [] pos) (te g (fG2 kk fi2 tst fe)) := by
  obtain ⟨te', ge, we⟩ := hel.ex
  exact (pe_g2Bi E hr hg hm hb TB hcode S hi hts ge hab hs hn hd he).imp fun σ H Q h => g2_imp hP Ek' we h
end
section
variable {X : Cx} {g : G}
/-! ### what is never run -/
theorem p_never {st : Stmt} : PS X st (ts g fun _ => .bad) := ps_never.imp fun Z σ H ⟨e, n, r, h⟩ => bad_elim h
/-! ### enumerate, zip, reversed -/
def enD (ds : List D) : List D := ds.zipIdx.map fun p => .tuple [.int (p.2 : Nat), p.1]
theorem enD_len (ds : List D) : (enD ds).length = ds.length := by simp [enD]
theorem enD_get (ds : List D) (i : Nat) : (enD ds)[i]? = ds[i]?.map fun d => .tuple [.int (i : Nat), d] := by
  simp only [enD, List.getElem?_map, List.getElem?_zipIdx, Option.map_map, Nat.zero_add]
  rfl
theorem new_pair {H : Hp} {t : Addr} {x y : V} {a b : D} (ht : H t = none) (qa : Dq g H x a) (qb : Dq g H y b) : Dq g (upd H t (.tup [x, y])) (.ref t) (.tuple [a, b]) :=
  .tup SqT.new (by simp [sizeLine_eq]) (.cons (qa.ext (.new ht)) (.cons (qb.ext (.new ht)) .nil))
theorem Wk.enT {H : Hp} {a : Addr} {xs : List V} {ds : List D} (h : SqT g.K H a xs) (hl : ds.length ≤ sizeLine) (q : Dqs g H xs ds) : Wk g (IteT g.K a) (enD ds) H := by
  refine ⟨by rw [enD_len]; exact hl, fun i H' hi x => ⟨xs, xs[i]'(by rw [q.len, ← enD_len]; exact hi), x.tup h, by simp⟩, fun H' x => ⟨xs, x.tup h, by rw [q.len, enD_len]⟩, fun i H' v H'' d x hd y => ?_⟩
  obtain ⟨t, u, rfl, ht, rfl, hu⟩ := y
  rw [enD_get] at hd
  simp only [Option.map_eq_some_iff] at hd
  obtain ⟨d', e1, rfl⟩ := hd
  obtain ⟨w, e2, qw⟩ := q.get e1
  have e3 := hu xs (x.tup h)
  rw [e2] at e3
  cases e3
  exact ⟨.new ht, new_pair ht (.int _) (Dq.extv x _ _ qw)⟩
theorem Wk.enL {H : Hp} {a : Addr} {xs : List V} {ds : List D} (hv : a ∉ g.vol) (h : H a = some (.lst xs)) (hl : ds.length ≤ sizeLine) (q : Dqs g H xs ds) : Wk g (Ite g.K a) (enD ds) H := by
  have w := walk_enum (K := g.K) (a := a) (xs := xs)
  have hh : ∀ H', Ext g.vol H H' → SqL g.K H' a xs := fun H' x => .of (x.own hv h (fun _ z => by cases z))
  refine ⟨by rw [enD_len]; exact hl, fun i H' hi x => w.goes i H' (by rw [q.len, ← enD_len]; exact hi) (hh H' x), fun H' x => by rw [enD_len, ← q.len]; exact w.stops H' (hh H' x), fun i H' v H'' d x hd y => ?_⟩
  rw [enD_get] at hd
  simp only [Option.map_eq_some_iff] at hd
  obtain ⟨d', e1, rfl⟩ := hd
  have hi : i < xs.length := by rw [q.len]; exact (List.getElem?_eq_some_iff.mp e1).1
  obtain ⟨t, y1, y2, rfl, ht, rfl, h1, h2⟩ := w.yields i H' v H'' hi (hh H' x) y
  cases h1
  obtain ⟨w', e2, qw⟩ := q.get e1
  have h2 : xs[i]? = some y2 := h2
  rw [e2] at h2
  cases h2
  exact ⟨.new ht, new_pair ht (.int _) (Dq.extv x _ _ qw)⟩
def iEnumA (K : PySem.W.Frag) (ta : TA) : TI := fun σ H R => ta σ H fun vs H1 => ∃ a xs, vs = [.ref a] ∧ ((SqT K H1 a xs ∧ R (IteT K a) H1) ∨ (SqL K H1 a xs ∧ R (Ite K a) H1))
theorem pi_enumA {e : Expr} {ta : TA} {p pos tpos : Pos} {elts : List Expr} {kk : Nat} (hg : Gl X "enumerate") (hm : X.mg "enumerate" = none) (ha : PA X [e] ta) (hs : starEach [e] X.env = [(false, eval e X.env)] := by rfl) :
    PI X (.Tuple elts kk tpos) (.Call (.Name "enumerate" p) [e] [] pos) (iEnumA X.K ta) := by
  refine ⟨fun pins s σ H R I h => ?_⟩
  refine PyProof.Rows.Call_ (ld_blt I hg hm PyProof.Rows.boot_enumerate (PyProof.Rows.callWith_type1 (thn (ha.run pos pins s σ H _ I h) fun us s1 ⟨vs, H1, I1, r1, q1⟩ => ?_) hs rfl))
  obtain ⟨a, xs, ex, q⟩ := q1
  subst ex
  cases r1 with
  | cons r rr =>
    cases rr
    cases r
    rcases q with ⟨hq, q⟩ | ⟨hq, q⟩
    · obtain ⟨its, rv, p', hz⟩ := I1.tuple hq
      have hlt : a < s1.heap.objs.size := by obtain ⟨_, e, _⟩ := p'; exact Heap.lt_size e
      refine enum_begins1 (begins_tuple a its.toArray) p' fun h' he hit hsz hk => wpAny_pyIter_enum he ?_
      have I2 : Inv X pins σ H1 { s1 with heap := h' } := I1.kept (t' := s1.toks) hk
      refine ⟨s1.heap.objs.size + 1, [s1.heap.objs.size + 1, s1.heap.objs.size], _, _, H1, rfl, I2, turn_enumT a (s1.heap.objs.size + 1) s1.heap.objs.size (Nat.ne_of_lt hlt), ⟨⟨.none, he⟩, ⟨_, hit, rfl, rfl⟩, Nat.succ_ne_self _⟩, fun b hb => ?_, q⟩
      have e' : b = s1.heap.objs.size + 1 ∨ b = s1.heap.objs.size := by simpa using hb
      have hle : s1.heap.objs.size ≤ b := by
        rcases e' with z | z
        · rw [z]; exact Nat.le_add_right _ _
        · rw [z]; exact Nat.le_refl _
      exact I1.fpOk hle (I1.hok.fresh hle)
    · obtain ⟨its, rv, p', hz⟩ := I1.list hq
      refine PySem.call_enumerate_list p'.isList fun h' he hit hsz hk => wpAny_pyIter_enum he ?_
      have I2 : Inv X pins σ H1 { s1 with heap := h' } := I1.kept (t' := s1.toks) hk
      refine ⟨s1.heap.objs.size + 1, [s1.heap.objs.size + 1, s1.heap.objs.size], _, _, H1, rfl, I2, turn_enum a (s1.heap.objs.size + 1) s1.heap.objs.size, ⟨⟨.none, he⟩, hit, Nat.succ_ne_self _⟩, fun b hb => ?_, q⟩
      have e' : b = s1.heap.objs.size + 1 ∨ b = s1.heap.objs.size := by simpa using hb
      have hle : s1.heap.objs.size ≤ b := by
        rcases e' with z | z
        · rw [z]; exact Nat.le_add_right _ _
        · rw [z]; exact Nat.le_refl _
      exact I1.fpOk hle (I1.hok.fresh hle)
def dEnum : List D → T (List D)
  | [.tuple ds] => .ok (enD ds)
  | [.list ds] => .ok (enD ds)
  | _ => .bad
theorem p_ienum {e : Expr} {k : En → T (List D)} {p pos tpos : Pos} {elts : List Expr} {kk : Nat} (hK : X.K = g.K) (hg : Gl X "enumerate") (hm : X.mg "enumerate" = none) (ha : PA X [e] (ta g k)) (hs : starEach [e] X.env = [(false, eval e X.env)] := by rfl) :
    PI X (.Tuple elts kk tpos) (.Call (.Name "enumerate" p) [e] [] pos) (ti g (iRg dEnum k)) :=
  (pi_enumA hg hm ha hs).imp fun σ H R ⟨e, n, rp, h⟩ => ta_step rp h fun ds m vs H1 x1 r1 q1 h1 => by
    cases q1 with
    | nil => exact bad_elim h1
    | cons qa q1 =>
      cases q1 with
      | cons _ _ => cases qa <;> exact bad_elim h1
      | nil =>
        cases qa with
        | tup a l q => exact ⟨_, _, rfl, .inl ⟨by rw [hK]; exact a, h1 H1 _ x1 r1.ok.st ⟨by rw [hK]; exact Wk.enT a l q, fun b hb => by rw [hK]; exact Wk.enT (g := g.add b) a l (Dqs.add hb _ _ q)⟩⟩⟩
        | @lst a0 xs0 ds0 nv a l q => exact ⟨_, _, rfl, .inr ⟨.of a, h1 H1 _ x1 r1.ok.st ⟨by rw [hK]; exact Wk.enL nv a l q, fun b hb => by rw [hK]; exact Wk.enL (g := g.add b) (G.vol_add.mpr ⟨nv, fun z => by rw [z, hb] at a; cases a⟩) a l (Dqs.add hb _ _ q)⟩⟩⟩
        | _ => exact bad_elim h1
/-- reversed -/
theorem Wk.rvT {H : Hp} {a : Addr} {xs : List V} {ds : List D} (h : SqT g.K H a xs) (hl : ds.length ≤ sizeLine) (q : Dqs g H xs ds) : Wk g (RT.ItvT g.K a xs.length) ds.reverse H := by
  refine ⟨by simpa using hl, fun i H' hi x => ?_, fun H' x => by rw [List.length_reverse, ← q.len]; exact Nat.le_refl _, fun i H' v H'' d x hd y => ?_⟩
  · rw [List.length_reverse, ← q.len] at hi
    exact ⟨hi, xs, xs[xs.length - 1 - i]'(by omega), x.tup h, by simp⟩
  · obtain ⟨rfl, hv⟩ := y
    have e1 := hv xs (x.tup h)
    have hi : i < ds.length := by have := (List.getElem?_eq_some_iff.mp hd).1; simpa using this
    rw [List.getElem?_reverse hi] at hd
    obtain ⟨w, e2, qw⟩ := q.get hd
    rw [q.len, e2] at e1
    cases e1
    exact ⟨.refl _, Dq.extv x _ _ qw⟩
theorem Wk.rvL {H : Hp} {a : Addr} {xs : List V} {ds : List D} (hv : a ∉ g.vol) (h : H a = some (.lst xs)) (hl : ds.length ≤ sizeLine) (q : Dqs g H xs ds) : Wk g (Itv g.K a xs.length) ds.reverse H := by
  have hh : ∀ H', Ext g.vol H H' → SqL g.K H' a xs := fun H' x => .of (x.own hv h (fun _ z => by cases z))
  refine ⟨by simpa using hl, fun i H' hi x => ?_, fun H' x => by rw [List.length_reverse, ← q.len]; exact Nat.le_refl _, fun i H' v H'' d x hd y => ?_⟩
  · rw [List.length_reverse, ← q.len] at hi
    exact ⟨hi, xs, xs[xs.length - 1 - i]'(by omega), hh H' x, by simp⟩
  · have e1 := y.2 xs (hh H' x)
    obtain ⟨rfl, _⟩ := y
    have hi : i < ds.length := by have := (List.getElem?_eq_some_iff.mp hd).1; simpa using this
    rw [List.getElem?_reverse hi] at hd
    obtain ⟨w, e2, qw⟩ := q.get hd
    rw [q.len, e2] at e1
    cases e1
    exact ⟨.refl _, Dq.extv x _ _ qw⟩
def dRev : D → T (List D)
  | .tuple ds => .ok ds.reverse
  | .list ds => .ok ds.reverse
  | _ => .bad
def iOf (o : D → T (List D)) (f : En → T D) : En → T (List D) := fun e => (f e).bind o
theorem p_irev {t e : Expr} {f : En → T D} {p pos : Pos} (hK : X.K = g.K) (hg : Gl X "reversed") (hm : X.mg "reversed" = none) (he : PE X e (te g f)) (hs : starEach [e] X.env = (false, eval e X.env) :: starEach [] X.env := by rfl) : PI X t (.Call (.Name "reversed" p) [e] [] pos) (ti g (iOf dRev f)) :=
  (RT.pi_revA hg hm he hs).imp fun σ H R ⟨e, n, rp, h⟩ => te_step rp h fun d m v H1 x1 r1 q1 h1 => by
    cases q1 with
    | tup a l q => exact ⟨_, _, rfl, .inr ⟨by rw [hK]; exact a, h1 H1 _ x1 r1.ok.st ⟨by rw [hK]; exact Wk.rvT a l q, fun b hb => by rw [hK]; exact Wk.rvT (g := g.add b) a l (Dqs.add hb _ _ q)⟩⟩⟩
    | lst nv a l q => exact ⟨_, _, rfl, .inl ⟨.of a, h1 H1 _ x1 r1.ok.st ⟨by rw [hK]; exact Wk.rvL nv a l q, fun b hb => by rw [hK]; exact Wk.rvL (g := g.add b) (G.vol_add.mpr ⟨nv, fun z => by rw [z, hb] at a; cases a⟩) a l (Dqs.add hb _ _ q)⟩⟩⟩
    | _ => exact bad_elim h1
/-! ### tuple(x), list(x) -/
def oTupOf : D → T D
  | .tuple ds => .ok (.tuple ds)
  | .list ds => .ok (.tuple ds)
  | _ => .bad
theorem p_tupOf {a : Expr} {f : En → T D} {p pos : Pos} (hK : X.K = g.K) (hg : Gl X "tuple") (hm : X.mg "tuple" = none) (ha : PE X a (te g f)) (he : starEach [a] X.env = (false, eval a X.env) :: starEach [] X.env := by rfl) : PE X (.Call (.Name "tuple" p) [a] [] pos) (te g (f1 oTupOf f)) :=
  (pe_callTy call_tuple_of hg hm PyProof.Rows.boot_tuple (pa_cons ha pa_nil he) (he := he)).imp fun σ H Q ⟨e, n, rp, h⟩ => te_step rp h fun d m v H1 x1 r1 q1 h1 => by
    cases q1 with
    | tup a l q => exact ⟨_, _, rfl, .inr ⟨by rw [hK]; exact a, h1 _ H1 x1 r1.ok.st (.tup a l q)⟩⟩
    | lst nv a l q => exact ⟨_, _, rfl, .inl ⟨.of a, fun b hb => h1 _ _ (x1.trans (.new hb)) (r1.ok.st.ext (.new hb)) (.tup SqT.new l (q.ext (.new hb)))⟩⟩
    | _ => exact bad_elim h1
def oListOf : D → T D
  | .tuple ds => .ok (.list ds)
  | .list ds => .ok (.list ds)
  | _ => .bad
theorem p_listOf {a : Expr} {f : En → T D} {p pos : Pos} (hK : X.K = g.K) (hg : Gl X "list") (hm : X.mg "list" = none) (ha : PE X a (te g f)) (he : starEach [a] X.env = (false, eval a X.env) :: starEach [] X.env := by rfl) : PE X (.Call (.Name "list" p) [a] [] pos) (te g (f1 oListOf f)) :=
  (pe_callTy call_list_of hg hm PyProof.Rows.boot_list (pa_cons ha pa_nil he) (he := he)).imp fun σ H Q ⟨e, n, rp, h⟩ => te_step rp h fun d m v H1 x1 r1 q1 h1 => by
    cases q1 with
    | tup a l q => exact ⟨_, _, rfl, .inr (by rw [hK]; exact a), fun b hb => h1 _ _ (x1.trans (.new hb)) (r1.ok.st.ext (.new hb)) (.lst (r1.ok.st.fresh hb) upd_same l (q.ext (.new hb)))⟩
    | lst nv a l q => exact ⟨_, _, rfl, .inl (.of a), fun b hb => h1 _ _ (x1.trans (.new hb)) (r1.ok.st.ext (.new hb)) (.lst (r1.ok.st.fresh hb) upd_same l (q.ext (.new hb)))⟩
    | _ => exact bad_elim h1
/-- tuple(range(..)), list(range(..)) -/
theorem p_tupRg {a : Expr} {f : En → T D} {p p2 pos pos2 : Pos} (hc : X.calm = true) (hg : Gl X "tuple") (hm : X.mg "tuple" = none) (hg2 : Gl X "range") (hm2 : X.mg "range" = none) (ha : PE X a (te g f)) (he : starEach [a] X.env = (false, eval a X.env) :: starEach [] X.env := by rfl)
    (na : starEach [.Call (.Name "range" p2) [a] [] pos2] X.env = (false, eval (.Call (.Name "range" p2) [a] [] pos2) X.env) :: starEach [] X.env := by rfl) :
    PE X (.Call (.Name "tuple" p) [.Call (.Name "range" p2) [a] [] pos2] [] pos) (te g fun e => (f e).bind fun d => (dRg1 [d]).bind fun ds => .ok (.tuple ds)) :=
  (pe_tupRg hc hg hm (prg_1 hg2 hm2 ha he) na).imp fun σ H Q ⟨e, n, rp, h⟩ => te_step rp h fun d m v H1 x1 r1 q1 h1 => by
    cases q1 with
    | int j =>
      simp only [dRg1] at h1
      split at h1
      · rename_i hh
        simp only [cRg, Bool.and_eq_true, decide_eq_true_eq] at hh
        refine ⟨j, rfl, ⟨by omega, by omega, by omega, by omega, by omega⟩, fun q hq => ?_⟩
        refine h1 _ _ (x1.trans (.new hq)) (r1.ok.st.ext (.new hq)) (.tup SqT.new (by simp only [rgD, List.length_map, List.length_range, sizeLine_eq]; omega) ?_)
        refine Dqs.of_get (by simp [rgD, rgV]) fun i v d e1 e2 => ?_
        simp only [rgV, rgD, List.getElem?_map, Option.map_eq_some_iff] at e1 e2
        obtain ⟨k, k1, rfl⟩ := e1
        obtain ⟨k', k2, rfl⟩ := e2
        rw [k1] at k2
        cases k2
        exact .int _
      · exact bad_elim h1
    | _ => exact bad_elim h1
theorem p_listRg {a : Expr} {f : En → T D} {p p2 pos pos2 : Pos} (hc : X.calm = true) (hg : Gl X "list") (hm : X.mg "list" = none) (hg2 : Gl X "range") (hm2 : X.mg "range" = none) (ha : PE X a (te g f)) (he : starEach [a] X.env = (false, eval a X.env) :: starEach [] X.env := by rfl)
    (na : starEach [.Call (.Name "range" p2) [a] [] pos2] X.env = (false, eval (.Call (.Name "range" p2) [a] [] pos2) X.env) :: starEach [] X.env := by rfl) :
    PE X (.Call (.Name "list" p) [.Call (.Name "range" p2) [a] [] pos2] [] pos) (te g fun e => (f e).bind fun d => (dRg1 [d]).bind fun ds => .ok (.list ds)) :=
  (pe_listRg hc hg hm (prg_1 hg2 hm2 ha he) na).imp fun σ H Q ⟨e, n, rp, h⟩ => te_step rp h fun d m v H1 x1 r1 q1 h1 => by
    cases q1 with
    | int j =>
      simp only [dRg1] at h1
      split at h1
      · rename_i hh
        simp only [cRg, Bool.and_eq_true, decide_eq_true_eq] at hh
        refine ⟨j, rfl, ⟨by omega, by omega, by omega, by omega, by omega⟩, fun q hq => ?_⟩
        refine h1 _ _ (x1.trans (.new hq)) (r1.ok.st.ext (.new hq)) (.lst (r1.ok.st.fresh hq) upd_same (by simp only [rgD, List.length_map, List.length_range, sizeLine_eq]; omega) ?_)
        refine Dqs.of_get (by simp [rgD, rgV]) fun i v d e1 e2 => ?_
        simp only [rgV, rgD, List.getElem?_map, Option.map_eq_some_iff] at e1 e2
        obtain ⟨k, k1, rfl⟩ := e1
        obtain ⟨k', k2, rfl⟩ := e2
        rw [k1] at k2
        cases k2
        exact .int _
      · exact bad_elim h1
    | _ => exact bad_elim h1
end
end PL
set_option Elab.async false
set_option linter.all false
set_option maxRecDepth 100000
set_option maxHeartbeats 4000000
namespace PL
open PySem L2 G9 GxR
/-! ### ints in order, each once -/
def insU (x : Int) : List Int → List Int
  | [] => [x]
  | y :: ys => if x < y then x :: y :: ys else if x = y then y :: ys else y :: insU x ys
def sortU (ns : List Int) : List Int := ns.foldr insU []
theorem mem_insU (x k : Int) : ∀ ys : List Int, k ∈ insU x ys ↔ k = x ∨ k ∈ ys
  | [] => by simp [insU]
  | y :: ys => by
    unfold insU
    split
    · simp
    · split
      · rename_i h; subst h; simp
      · simp [mem_insU x k ys]; constructor <;> (intro h; rcases h with h | h | h <;> simp [h])
theorem insU_asc (x : Int) : ∀ {ys : List Int}, ys.Pairwise (· < ·) → (insU x ys).Pairwise (· < ·)
  | [], _ => by simp [insU]
  | y :: ys, h => by
    unfold insU
    rw [List.pairwise_cons] at h
    split
    · rename_i hx
      refine List.pairwise_cons.mpr ⟨fun z hz => ?_, List.pairwise_cons.mpr h⟩
      rcases List.mem_cons.mp hz with rfl | hz
      · exact hx
      · have := h.1 z hz; omega
    · split
      · exact List.pairwise_cons.mpr h
      · refine List.pairwise_cons.mpr ⟨fun z hz => ?_, insU_asc x h.2⟩
        rcases (mem_insU x z ys).mp hz with rfl | hz
        · omega
        · exact h.1 z hz
theorem mem_sortU (k : Int) : ∀ ns : List Int, k ∈ sortU ns ↔ k ∈ ns
  | [] => by simp [sortU]
  | n :: ns => by
    show k ∈ insU n (sortU ns) ↔ _
    rw [mem_insU, mem_sortU k ns, List.mem_cons]
theorem sortU_asc : ∀ ns : List Int, (sortU ns).Pairwise (· < ·)
  | [] => by simp [sortU]
  | n :: ns => insU_asc n (sortU_asc ns)
/-- ascending lists of the same things are one -/
theorem asc_ext : ∀ {xs ys : List Int}, xs.Pairwise (· < ·) → ys.Pairwise (· < ·) → (∀ k, k ∈ xs ↔ k ∈ ys) → xs = ys
  | [], [], _, _, _ => rfl
  | [], y :: ys, _, _, h => by have := (h y).mpr List.mem_cons_self; cases this
  | x :: xs, [], _, _, h => by have := (h x).mp List.mem_cons_self; cases this
  | x :: xs, y :: ys, hx, hy, h => by
    rw [List.pairwise_cons] at hx hy
    have e : x = y := by
      have h1 := (h x).mp List.mem_cons_self
      have h2 := (h y).mpr List.mem_cons_self
      rcases List.mem_cons.mp h1 with h1 | h1
      · exact h1
      · rcases List.mem_cons.mp h2 with h2 | h2
        · exact h2.symm
        · have a := hy.1 x h1; have b := hx.1 y h2; omega
    subst e
    congr 1
    refine asc_ext hx.2 hy.2 fun k => ?_
    constructor
    · intro hk
      rcases List.mem_cons.mp ((h k).mp (List.mem_cons_of_mem _ hk)) with z | z
      · subst z; have := hx.1 _ hk; omega
      · exact z
    · intro hk
      rcases List.mem_cons.mp ((h k).mpr (List.mem_cons_of_mem _ hk)) with z | z
      · subst z; have := hy.1 _ hk; omega
      · exact z
theorem asc_nodup {xs : List Int} (h : xs.Pairwise (· < ·)) : xs.Nodup := h.imp fun a b => by omega
theorem sortU_id {xs : List Int} (h : xs.Pairwise (· < ·)) : sortU xs = xs := asc_ext (sortU_asc _) h fun k => mem_sortU k xs
theorem setR_card {w : World} {h : Heap} {a : Addr} {S : Int → Bool} {n : Nat} {ns : List Int} (R : SetR w h a S n) (hn : ns.Nodup) (hs : ∀ k, S k = true ↔ k ∈ ns) : n = ns.length := by
  obtain ⟨o, es, ep, t, _, _, _, _, hd, hk, _, _, he, _⟩ := R
  have p : (es.toList.map keyOf).Perm ns := (List.perm_ext_iff_of_nodup hd hn).mpr fun k => by rw [← hk, hs]
  have := p.length_eq
  rw [List.length_map, Array.length_toList] at this
  omega
/-- set(a tuple of ints), how many it has -/
def rSetU (K : PySem.W.Frag) (w : World) : List V → Hp → VK → Prop := fun xs H Q => ∃ (l : Addr) (ns : List Int), xs = [V.ref l] ∧ SqT K H l (ns.map V.int) ∧ ns.length ≤ 1000 ∧ ∀ a, H a = none → Q (.ref a) (upd H a (SetO w a (fun j => decide (j ∈ ns)) (sortU ns).length))
section
variable {X : Cx} {g : G}
theorem cr_setU (hc : X.calm = true) : CallR X (.type "set") (rSetU X.K X.w) := by
  intro pins s σ H xs us Q I r h
  obtain ⟨l, ns, rfl, hl, hf, q⟩ := h
  rw [Vals.ref1 r]
  obtain ⟨its, rv, pl, hz⟩ := I.tuple hl
  have hn : H s.heap.objs.size = none := I.hok.fresh (Nat.le_refl _)
  refine call_set_tupI (P := X.prog) (w := X.w) ns (I.ok.hd hc) (show s.heap.IsTuple l its.toArray from pl) (by simpa using ints_of_vals rv) (by unfold scanBound; omega) fun h' tk c R hc' k => ?_
  have e : c = (sortU ns).length := setR_card R (asc_nodup (sortU_asc ns)) fun k => by rw [decide_eq_true_iff, mem_sortU]
  subst e
  exact ⟨.ref s.heap.objs.size, upd H s.heap.objs.size (SetO X.w s.heap.objs.size (fun j => decide (j ∈ ns)) (sortU ns).length), I.laid (t' := tk) k (Nat.le_refl _) (setO_new R), rfl, q _ hn⟩
/-- len(s) -/
theorem cr_lenS : CallR X (.builtin "len") (fun xs H Q => ∃ (a : Addr) (S : Int → Bool) (n : Nat), xs = [V.ref a] ∧ H a = some (SetO X.w a S n) ∧ n ≤ 100000 ∧ Q (.int n) H) := by
  intro pins s σ H xs us Q I r h
  obtain ⟨a, S, n, rfl, ha, hn, q⟩ := h
  rw [Vals.ref1 r]
  obtain ⟨o, es, ep, t, ho, hex, hd, _, _, _, _, hf, he, _⟩ := setO_get I ha
  exact call_len_set ho hex hd hf (by omega) ⟨.int n, H, I.tok _, ⟨_, by rw [he]⟩, q⟩
def asIs : D → T (List Int)
  | .tuple ds => match intsOf ds with
    | some ns => if ns.length ≤ 1000 then .ok ns else .bad
    | none => .bad
  | _ => .bad
theorem te_setU {f : En → T D} {σ : L2.St} {H : Hp} {R : List V → Hp → Prop} (hK : X.K = g.K) {e : En} {n : Nat} {β : Type} {kk : List Int → T β} {Z : β → Nat → Prop} {E : Ex → Nat → Prop} (rp : Rp g σ H e n) (h : (f e).wp n (fun d m => ((asIs d).bind kk).wp m Z E) (Px g H))
    (w : ∀ ns m l H1, Ext g.sv H H1 → Rp g σ H1 e m → SqT X.K H1 l (ns.map V.int) → ns.length ≤ 1000 → (kk ns).wp m Z E → R [V.ref l] H1) : tCons (te g f) tNil σ H R := by
  refine ⟨e, n, rp, T.wp_mono h (fun d m h1 v H1 x1 s1 q1 => ?_) fun _ _ z => z⟩
  have r1 := rp.to x1 s1
  cases q1 with
  | tup a l q =>
    simp only [asIs] at h1
    cases e1 : intsOf _ with
    | none => rw [e1] at h1; exact bad_elim h1
    | some ns =>
      rw [e1] at h1
      simp only at h1
      split at h1
      · rename_i hl
        have e2 := of_intsOf e1
        subst e2
        exact w ns m _ H1 x1 r1 (by rw [hK, ← q.ints]; exact a) hl h1
      · exact bad_elim h1
  | _ => exact bad_elim h1
/-- len(set(x)) -/
theorem p_lenSet {a : Expr} {f : En → T D} {p p2 q pos : Pos} (hc : X.calm = true) (hK : X.K = g.K) (hg : Gl X "len") (hm : X.mg "len" = none) (hg2 : Gl X "set") (hm2 : X.mg "set" = none) (ha : PE X a (te g f)) (he : starEach [a] X.env = (false, eval a X.env) :: starEach [] X.env := by rfl)
    (he2 : starEach [.Call (.Name "set" p2) [a] [] q] X.env = (false, eval (.Call (.Name "set" p2) [a] [] q) X.env) :: starEach [] X.env := by rfl) :
    PE X (.Call (.Name "len" p) [.Call (.Name "set" p2) [a] [] q] [] pos) (te g fun e => (f e).bind fun d => (asIs d).bind fun ns => .ok (.int ((sortU ns).length : Nat))) :=
  (pe_callB cr_lenS hg hm PySem.boot_len (pa_cons (pe_callTy (cr_setU hc) hg2 hm2 PyProof.Rows.boot_set (pa_cons ha pa_nil he) (he := he)) pa_nil he2) (he := he2)).imp fun σ H Q ⟨e, n, rp, h⟩ => by
    refine te_setU (R := fun vs H1 => rSetU X.K X.w vs H1 _) hK rp (T.wp_bind.mp h) fun ns m l H1 x1 r1 hl hn h1 => ⟨l, ns, rfl, hl, hn, fun b hb => ?_⟩
    have hlen : (sortU ns).length ≤ ns.length := (asc_nodup (sortU_asc ns)).length_le_of_subset fun k hk => (mem_sortU k ns).mp hk
    exact ⟨b, _, _, rfl, upd_same, by omega, h1 _ _ (x1.trans (.new hb)) (r1.ok.st.ext (.new hb)) (.int _)⟩
/-- sorted(set(x)) -/
theorem p_sortedSet {a : Expr} {f : En → T D} {p p2 q pos : Pos} (hc : X.calm = true) (hK : X.K = g.K) (hg : Gl X "sorted") (hm : X.mg "sorted" = none) (hg2 : Gl X "set") (hm2 : X.mg "set" = none) (ha : PE X a (te g f)) (he : starEach [a] X.env = (false, eval a X.env) :: starEach [] X.env := by rfl)
    (he2 : starEach [.Call (.Name "set" p2) [a] [] q] X.env = (false, eval (.Call (.Name "set" p2) [a] [] q) X.env) :: starEach [] X.env := by rfl) :
    PE X (.Call (.Name "sorted" p) [.Call (.Name "set" p2) [a] [] q] [] pos) (te g fun e => (f e).bind fun d => (asIs d).bind fun ns => if (sortU ns).length < 64 then .ok (.list ((sortU ns).map .int)) else .bad) :=
  (pe_callB (cr_sortedSet hc) hg hm PyProof.Rows.boot_sorted (pa_cons (pe_callTy (cr_setU hc) hg2 hm2 PyProof.Rows.boot_set (pa_cons ha pa_nil he) (he := he)) pa_nil he2) (he := he2)).imp fun σ H Q ⟨e, n, rp, h⟩ => by
    refine te_setU (R := fun vs H1 => rSetU X.K X.w vs H1 _) hK rp (T.wp_bind.mp h) fun ns m l H1 x1 r1 hl hn h1 => ⟨l, ns, rfl, hl, hn, fun b hb => ?_⟩
    split at h1
    · rename_i h64
      refine ⟨b, _, _, rfl, upd_same, h64, fun out p ha hm hl' hp => ?_⟩
      have eo : out = sortU ns := asc_ext ha (sortU_asc ns) fun k => by rw [hm k, decide_eq_true_iff, mem_sortU]
      have x2 : Ext g.sv H1 (upd H1 b (SetO X.w b (fun j => decide (j ∈ ns)) (sortU ns).length)) := .new hb
      have s2 := r1.ok.st.ext (Ext.new (S := []) (o := SetO X.w b (fun j => decide (j ∈ ns)) (sortU ns).length) hb)
      rw [eo]
      exact h1 _ _ ((x1.trans x2).trans (.new hp)) (s2.ext (.new hp)) (.lst (s2.fresh hp) upd_same (by simp [sizeLine_eq]; omega) (Dqs.mk_ints _))
    · exact bad_elim h1
section
variable {g g' : G} {H : Hp}
mutual
theorem Dq.cg (hK : g'.K = g.K) (hs : g'.st = g.st) (hv : ∀ a, a ∉ g.vol → a ∉ g'.vol) : ∀ (d : D) (v : V), Dq g H v d → Dq g' H v d
  | .none, _, h => by cases h; exact .non
  | .bool b, _, h => by cases h; exact .bl b
  | .int i, _, h => by cases h; exact .int i
  | .str s, _, h => by cases h; exact .str s
  | .list ds, _, h => by
    cases h with
    | lst n q l a => exact .lst (hv _ n) q l (Dqs.cg hK hs hv ds _ a)
  | .tuple ds, _, h => by
    cases h with
    | tup q l a => exact .tup (by rw [hK]; exact q) l (Dqs.cg hK hs hv ds _ a)
  | .dict kvs, _, h => by
    cases h with
    | st e => exact .st (hs.trans e)
theorem Dqs.cg (hK : g'.K = g.K) (hs : g'.st = g.st) (hv : ∀ a, a ∉ g.vol → a ∉ g'.vol) : ∀ (ds : List D) (vs : List V), Dqs g H vs ds → Dqs g' H vs ds
  | [], _, h => by cases h; exact .nil
  | d :: ds, _, h => by
    cases h with
    | cons a b => exact .cons (Dq.cg hK hs hv d _ a) (Dqs.cg hK hs hv ds _ b)
end
end
/-! ### own lists and sets: from where they are made to where they are let go -/
def NJ (g : G) (j : Nat) : Prop := ∀ p ∈ g.ow, p.1 ≠ j
theorem NJ.nil {j : Nat} (h : g.ow = []) : NJ g j := fun p hp => by rw [h] at hp; cases hp
theorem NJ.add {j i : Nat} {a : Addr} (h : NJ g j) (hij : i ≠ j) : NJ (g.add a (some i)) j := fun p hp => by
  rcases List.mem_cons.mp hp with rfl | hp
  · exact hij
  · exact h p hp
inductive Over (g : G) : G → List Nat → Prop
  | base : Over g g []
  | more {g' : G} {js : List Nat} {a : Addr} {j : Nat} : Over g g' js → NJ g' j → a ∉ g'.vol → (∀ p ∈ g'.ow, p.2 ∈ g'.ad) → (∀ p ∈ g'.ow, ∀ q ∈ g'.ow, p.2 = q.2 → p.1 = q.1) → Over g (g'.add a (some j)) (j :: js)
def unown : Option D → Option D
  | some (.dict [(.none, .list ds)]) => some (.list ds)
  | some (.dict (_ :: _)) => none
  | x => x
def rel1 (j : Nat) (e : En) : En := match e[j]? with
  | some o => e.set j (unown o)
  | none => e
def relE : List Nat → En → En
  | [], e => e
  | j :: js, e => relE js (rel1 j e)
theorem rel1_len (j : Nat) (e : En) : (rel1 j e).length = e.length := by
  unfold rel1
  split <;> simp
theorem Sl.sub {H : Hp} {a : Addr} {j i : Nat} {v : V} {d : D} (hij : i ≠ j) (h : Sl (g.add a (some j)) H i v d) : Sl g H i v d := by
  cases h with
  | val q => exact .val (Dq.sub _ _ q)
  | lst m e l q =>
    refine .lst ?_ e l (Dqs.sub _ _ q)
    rcases List.mem_cons.mp m with z | z
    · cases z; exact absurd rfl hij
    · exact z
  | set m e s l =>
    refine .set ?_ e s l
    rcases List.mem_cons.mp m with z | z
    · cases z; exact absurd rfl hij
    · exact z
theorem Rp.rel1 {σ : L2.St} {H : Hp} {e : En} {n : Nat} {a : Addr} {j : Nat} (nj : NJ g j) (ha : a ∉ g.vol) (hw : ∀ p ∈ g.ow, p.2 ∈ g.ad) (h1 : ∀ p ∈ g.ow, ∀ q ∈ g.ow, p.2 = q.2 → p.1 = q.1) (r : Rp (g.add a (some j)) σ H e n) : Rp g σ H (PL.rel1 j e) n := by
  refine ⟨⟨⟨r.ok.st.sta, fun b hb => r.ok.st.ad b (List.mem_cons_of_mem _ hb), hw, h1⟩, r.ok.tb⟩, by rw [rel1_len]; exact r.len, fun i d q => ?_⟩
  by_cases hij : i = j
  · subst hij
    cases ei : e[i]? with
    | none => simp only [PL.rel1, ei] at q; cases q
    | some o =>
      have hl : i < e.length := (List.getElem?_eq_some_iff.mp ei).1
      simp only [PL.rel1, ei, List.getElem?_set_self hl, Option.some.injEq] at q
      cases o with
      | none => cases q
      | some d' =>
        obtain ⟨v, hv, s⟩ := r.sl i d' ei
        refine ⟨v, hv, ?_⟩
        cases s with
        | val qd =>
          have : unown (some d') = some d' := by
            cases qd <;> rfl
          rw [this] at q
          cases q
          exact .val (Dq.sub _ _ qd)
        | @lst b xs ds m e' l qs =>
          cases q
          have hb : b ∉ g.vol := by
            rcases List.mem_cons.mp m with z | z
            · cases z; exact ha
            · exact absurd rfl (nj _ z)
          exact .val (.lst hb e' l (Dqs.sub _ _ qs))
        | set m e' s l => cases q
  · have q' : e[i]? = some (some d) := by
      cases ej : e[j]? with
      | none => simpa only [PL.rel1, ej] using q
      | some o =>
        simp only [PL.rel1, ej] at q
        rwa [List.getElem?_set_ne (fun z => hij z.symm)] at q
    obtain ⟨v, hv, s⟩ := r.sl i d q'
    exact ⟨v, hv, s.sub hij⟩
theorem Over.sv {g' : G} {js : List Nat} (o : Over g g' js) : g'.sv = g.sv := by
  induction o with
  | base => rfl
  | more _ _ _ _ _ ih => exact ih
theorem Over.K {g' : G} {js : List Nat} (o : Over g g' js) : g'.K = g.K := by
  induction o with
  | base => rfl
  | more _ _ _ _ _ ih => exact ih
theorem Over.rp {g' : G} {js : List Nat} {σ : L2.St} {H : Hp} {e : En} {n : Nat} (o : Over g g' js) (r : Rp g' σ H e n) : Rp g σ H (relE js e) n := by
  induction o generalizing e with
  | base => exact r
  | more _ nj ha hw h1 ih => exact ih (r.rel1 nj ha hw h1)
theorem Over.dq {g' : G} {js : List Nat} {H : Hp} {v : V} {d : D} (o : Over g g' js) (q : Dq g' H v d) : Dq g H v d := by
  induction o with
  | base => exact q
  | more _ _ _ _ _ ih => exact ih (Dq.sub _ _ q)
theorem Over.stt {g' : G} {js : List Nat} {H : Hp} {n : Nat} (o : Over g g' js) (q : Stt g' H n) : Stt g H n := by
  induction o with
  | base => exact q
  | more _ _ _ hw h1 ih => exact ih ⟨q.sta, fun b hb => q.ad b (List.mem_cons_of_mem _ hb), hw, h1⟩
theorem Over.nw {g' : G} {js : List Nat} (o : Over g g' js) : ∀ a ∈ g.ad, a ∈ g'.ad := by
  induction o with
  | base => exact fun a h => h
  | more _ _ _ _ _ ih => exact fun a h => List.mem_cons_of_mem _ (ih a h)
theorem Over.nwo {g' : G} {js : List Nat} (o : Over g g' js) : ∀ a ∈ g.ow, a ∈ g'.ow := by
  induction o with
  | base => exact fun a h => h
  | more _ _ _ _ _ ih => exact fun a h => List.mem_cons_of_mem _ (ih a h)
/-- nothing that counts stands there -/
def Fre (H : Hp) (p : Addr) : Prop := (∀ o, H p = some o → ¬ NoTbl o) ∧ ¬ TabG H p
theorem ext_fre {S : List Addr} {H H1 : Hp} (x : Ext S H H1) {p : Addr} (hp : p ∉ S) (h : H1 p = none) : Fre H p := by
  have h := fre_none h
  exact ⟨fun o e n => h.1 o (x.1 p o e (.inl hp) n) n, fun t => h.2 (x.2 p t)⟩
def Nw (g g' : G) (H0 : Hp) : Prop := ∀ p ∈ g'.ow, p ∈ g.ow ∨ Fre H0 p.2
theorem Nw.ext {g' : G} {H0 H H' : Hp} (hsv : g'.sv = g.sv) (w : Nw g g' H0) (x : Ext g.mv H0 H) (y : Ext g'.mv H H') : Ext g.mv H0 H' := by
  refine ⟨fun b o e hs m => ?_, fun P t => y.2 P (x.2 P t)⟩
  refine y.1 b o (x.1 b o e hs m) (hs.imp (fun hb => ?_) id) m
  intro z
  unfold G.mv at z hb
  rw [List.mem_append] at z hb
  rw [hsv] at z
  rcases z with z | z
  · exact hb (.inl z)
  · obtain ⟨p, hp, rfl⟩ := List.mem_map.mp z
    rcases w p hp with z | z
    · exact hb (.inr (List.mem_map.mpr ⟨p, z, rfl⟩))
    · exact z.1 o e m
/-- statements that begin within, what follows them without -/
def tr (g g' : G) (t : En → T Fl) : TS := fun Z σ H => ∃ e n H0, Rp g' σ H e n ∧ Nw g g' H0 ∧ Ext g.mv H0 H ∧ (t e).wp n (Pf g H0 Z) (Px g H0)
def sqR (js : List Nat) (t : En → T Fl) : Fl → T Fl
  | .nx e => t e
  | .rt d => .ok (.rt d)
  | .bk e => .ok (.bk (relE js e))
  | .ct e => .ok (.ct (relE js e))
def sSqR (js : List Nat) (s t : En → T Fl) : En → T Fl := fun e => (s e).bind (sqR js t)
def sRel (js : List Nat) (t : En → T Fl) : En → T Fl := fun e => t (relE js e)
variable {g' : G} {js : List Nat}
theorem Over.px0 (o : Over g g' js) {H0 H : Hp} (w : Nw g g' H0) (x : Ext g.mv H0 H) {e : Ex} {n : Nat} (h : Px g H0 e n) : Px g' H e n := by
  have hx : ∀ {g' : G} {js : List Nat}, Over g g' js → g'.xe = g.xe ∧ g'.xr = g.xr := fun o => by
    induction o with
    | base => exact ⟨rfl, rfl⟩
    | more _ _ _ _ _ ih => exact ih
  intro c d H' y s z
  rw [(hx o).1]
  rw [(hx o).2] at z
  exact h c d H' (w.ext o.sv x y) (o.stt s) z
theorem r_nil (o : Over g g' js) : PSs X [] (tr g g' (sRel js sNx)) := pss_nil.imp fun Z σ H ⟨e, n, H0, r, w, x, h⟩ => h σ H x (o.rp r)
theorem r_cons {st : Stmt} {rest : List Stmt} {s t : En → T Fl} (o : Over g g' js) (h1 : PS X st (ts g' s)) (h2 : PSs X rest (tr g g' t)) : PSs X (st :: rest) (tr g g' (sSqR js s t)) :=
  (pss_cons h1 h2).imp fun Z σ H ⟨e, n, H0, r, w, x0, h⟩ => by
    refine ⟨e, n, r, T.wp_mono (T.wp_bind.mp h) (fun f m z => ?_) fun _ _ z => o.px0 w x0 z⟩
    cases f with
    | nx e' => exact fun σ' H' x r' => ⟨e', m, H0, r', w, w.ext o.sv x0 x, z⟩
    | rt d => exact fun v H' x s' q => z v H' (w.ext o.sv x0 x) (o.stt s') (o.dq q)
    | bk e' => exact fun σ' H' x r' => z σ' H' (w.ext o.sv x0 x) (o.rp r')
    | ct e' => exact fun σ' H' x r' => z σ' H' (w.ext o.sv x0 x) (o.rp r')
theorem r_rel {rest : List Stmt} {t : En → T Fl} (o : Over g g' js) (h : PSs X rest (ts g t)) : PSs X rest (tr g g' (sRel js t)) :=
  h.imp fun Z σ H ⟨e, n, H0, r, w, x, z⟩ => ⟨relE js e, n, o.rp r, wpf_tov x z⟩
theorem r_base {sts : List Stmt} {t : En → T Fl} (h : PSs X sts (tr g g t)) : PSs X sts (ts g t) := h.imp fun Z σ H ⟨e, n, r, z⟩ => ⟨e, n, H, r, fun a h => .inl h, .refl _, z⟩
theorem Rp.own {σ : L2.St} {H H' : Hp} {e : En} {n n' : Nat} {a : Addr} {i : Nat} {d : D} (r : Rp g σ H e n) (ha : H a = none) (x : Ext g.sv H H') (s : Stt (g.add a (some i)) H' n') (q : Sl (g.add a (some i)) H' i (.ref a) d) : Rp (g.add a (some i)) (σ.set i (some (.ref a))) H' (e.set i (some d)) n' := by
  have r2 : Rp (g.add a (some i)) σ H' e n' := ⟨⟨s, fun P h => x.2 P (r.ok.tb P h)⟩, r.len, fun j u q => let ⟨v, p1, p2⟩ := r.sl j u q; ⟨v, p1, (p2.add ha).ext x s.adsv⟩⟩
  exact r2.setS i q
theorem Nw.more {H0 H : Hp} {a : Addr} {i : Nat} (w : Nw g g' H0) (x : Ext g.mv H0 H) (hv : a ∉ g.mv) (ha : H a = none) : Nw g (g'.add a (some i)) H0 := fun b hb => by
  rcases List.mem_cons.mp hb with rfl | hb
  · exact .inr (ext_fre x hv ha)
  · exact w b hb
theorem Over.mv (o : Over g g' js) (hw : ∀ p ∈ g'.ow, p.2 ∈ g'.ad) {a : Addr} (h : a ∉ g'.vol) : a ∉ g.mv := fun z => by
  unfold G.vol at h
  unfold G.mv at z
  rw [List.mem_append] at z h
  rw [o.sv] at h
  refine h (z.imp id fun z => ?_)
  obtain ⟨p, hp, rfl⟩ := List.mem_map.mp z
  exact hw p (o.nwo p hp)
/-- x = set(a tuple of ints), x then changed -/
def sOwS (i : Nat) (f : En → T D) (t : En → T Fl) : En → T Fl := fun e => (f e).bind fun d => (asIs d).bind fun ns => t (e.set i (some (ownS (sortU ns))))
theorem r_setU {i : Nat} {x : Str} {a : Expr} {f : En → T D} {rest : List Stmt} {t : En → T Fl} {p p2 pos pos' : Pos} (hc : X.calm = true) (hN : X.N.Nodup) (hi : X.N[i]? = some x) (hx : Loc X.env.scope x) (hK : X.K = g'.K) (hw : X.w = g'.w) (o : Over g g' js) (nj : NJ g' i) (hg : Gl X "set") (hm : X.mg "set" = none) (ha : PE X a (te g' f))
    (hr : ∀ b, Over g (g'.add b (some i)) (i :: js) → PSs X rest (tr g (g'.add b (some i)) t))
    (he : starEach [a] X.env = (false, eval a X.env) :: starEach [] X.env := by rfl) (hs : swapsWith (.Call (.Name "set" p) [a] [] p2) (some (.Name x pos')) pos.line X.env = pure false := by rfl) (hf : X.fn x = true ∨ X.env.scope.names.lookup x = some .local := by first | exact .inl rfl | exact .inr rfl | assumption) :
    PSs X (.Assign [.Name x pos'] (.Call (.Name "set" p) [a] [] p2) pos :: rest) (tr g g' (sOwS i f t)) := by
  have hrest : PSs X rest (fun Z σ H => ∃ b, Over g (g'.add b (some i)) (i :: js) ∧ tr g (g'.add b (some i)) t Z σ H) := ⟨fun pins s σ H Z I ⟨b, ob, h⟩ => (hr b ob).run pins s σ H Z I h⟩
  refine (pss_cons (ps_set hN hi hx (pe_callTy (cr_setU hc) hg hm PyProof.Rows.boot_set (pa_cons ha pa_nil he) (he := he)) hs hf) hrest).imp fun Z σ H ⟨e, n, H0, rp, w, x0, h⟩ => ?_
  have h' := T.wp_mono (T.wp_bind.mp h) (fun _ _ z => z) fun _ _ z => o.px0 w x0 z
  refine te_setU (R := fun vs H1 => rSetU X.K X.w vs H1 _) hK rp h' fun ns m l H1 x1 r1 hl hn h1 => ⟨l, ns, rfl, hl, hn, fun b hb => ?_⟩
  have st1 := r1.ok.st
  have h3 := st1.freshS hb
  have hv := st1.fresh hb
  have xx : Ext [] H1 (upd H1 b (SetO X.w b (fun j => decide (j ∈ ns)) (sortU ns).length)) := .new hb
  have st2 : Stt (g'.add b (some i)) (upd H1 b (SetO X.w b (fun j => decide (j ∈ ns)) (sortU ns).length)) m := (st1.ext xx).add h3 hv upd_same setO_nt setO_nf
  have r2 := r1.own hb xx.any st2 (d := ownS (sortU ns)) (.set List.mem_cons_self (by rw [hw]; exact upd_same) (fun k => by rw [decide_eq_true_iff, mem_sortU]) (sortU_asc ns))
  have x01 := w.ext o.sv x0 (Ext.m x1)
  exact ⟨b, .more o nj hv st1.ow st1.one, _, m, H0, r2, w.more x01 (o.mv st1.ow hv) hb, x01.trans xx.any, h1⟩
/-! ### what is done with an own set -/
theorem Rp.upd {σ : L2.St} {H : Hp} {e : En} {n : Nat} {a : Addr} {i : Nat} {d : D} {u : HO} (r : Rp g σ H e n) (m : (i, a) ∈ g.ow) {o : HO} (ho : H a = some o) (hn : NoTbl o) (hf : ¬ Fix o) (hn' : NoTbl u) (hf' : ¬ Fix u) (hs : σ[i]? = some (some (.ref a)))
    (q : (∀ v d, Dq g H v d → Dq g (L2.upd H a u) v d) → Sl g (L2.upd H a u) i (.ref a) d) : Rp g σ (L2.upd H a u) (e.set i (some d)) n := by
  have had := r.ok.st.ow _ m
  have h3 := (r.ok.st.ad a had).1
  have hv : Ext g.vol H (L2.upd H a u) := Ext.put ho hn hf (List.mem_append_right _ had)
  refine ⟨⟨r.ok.st.upd h3 hn' hf', fun P hP => hv.2 P (r.ok.tb P hP)⟩, by simp [r.len], fun j d' hj => ?_⟩
  by_cases hij : i = j
  · subst hij
    by_cases hl : i < e.length
    · simp [List.getElem?_set, hl] at hj
      subst hj
      exact ⟨_, hs, q fun v d q => Dq.extv hv _ _ q⟩
    · simp [List.getElem?_set, hl] at hj
  · rw [List.getElem?_set_ne hij] at hj
    obtain ⟨v, hv', s⟩ := r.sl j d' hj
    refine ⟨v, hv', ?_⟩
    have ne : ∀ b, (j, b) ∈ g.ow → b ≠ a := fun b hb z => hij (r.ok.st.one _ m _ hb z.symm)
    cases s with
    | val q => exact .val (Dq.extv hv _ _ q)
    | lst k e l q => exact .lst k (by rw [upd_ne (ne _ k)]; exact e) l (Dqs.extv hv _ _ q)
    | set k e s l => exact .set k (by rw [upd_ne (ne _ k)]; exact e) s l
def setAt (e : En) (i : Nat) : Option (List Int) := match e[i]? with
  | some (some (.dict [(.none, .tuple ds)])) => intsOf ds
  | _ => none
def lstAt (e : En) (i : Nat) : Option (List D) := match e[i]? with
  | some (some (.dict [(.none, .list ds)])) => some ds
  | _ => none
theorem setAt_own {e : En} {i : Nat} {ns : List Int} (h : setAt e i = some ns) : e[i]? = some (some (ownS ns)) := by
  unfold setAt at h
  split at h
  · rename_i ds he
    rw [he, ownS, of_intsOf h]
  · cases h
theorem lstAt_own {e : En} {i : Nat} {ds : List D} (h : lstAt e i = some ds) : e[i]? = some (some (ownL ds)) := by
  unfold lstAt at h
  split at h
  · rename_i ds' he
    cases h
    exact he
  · cases h
theorem Rp.atS {σ : L2.St} {H : Hp} {e : En} {n : Nat} (r : Rp g σ H e n) {i : Nat} {ns : List Int} (h : setAt e i = some ns) :
    ∃ a S, σ[i]? = some (some (.ref a)) ∧ (i, a) ∈ g.ow ∧ H a = some (SetO g.w a S ns.length) ∧ (∀ k, S k = true ↔ k ∈ ns) ∧ ns.Pairwise (· < ·) := by
  obtain ⟨v, hv, s⟩ := r.sl i _ (setAt_own h)
  generalize hd : ownS ns = d at s
  cases s with
  | val q => subst hd; cases q
  | lst m e l q => cases hd
  | @set a S ns' m e s l =>
    simp only [ownS, PyData.dict.injEq, List.cons.injEq, Prod.mk.injEq, PyData.tuple.injEq, and_true, true_and] at hd
    have : ns = ns' := by
      have := congrArg intsOf hd
      rw [intsOf_map, intsOf_map] at this
      exact Option.some.inj this
    subst this
    exact ⟨a, S, hv, m, e, s, l⟩
theorem Rp.atL {σ : L2.St} {H : Hp} {e : En} {n : Nat} (r : Rp g σ H e n) {i : Nat} {ds : List D} (h : lstAt e i = some ds) :
    ∃ a xs, σ[i]? = some (some (.ref a)) ∧ (i, a) ∈ g.ow ∧ H a = some (.lst xs) ∧ ds.length ≤ sizeLine ∧ Dqs g H xs ds := by
  obtain ⟨v, hv, s⟩ := r.sl i _ (lstAt_own h)
  generalize hd : ownL ds = d at s
  cases s with
  | val q => subst hd; cases q
  | @lst a xs ds' m e l q => cases hd; exact ⟨a, xs, hv, m, e, l, q⟩
  | set m e s l => cases hd
/-- x.add(k) -/
def oSAdd (i : Nat) (f : En → T D) : En → T Fl := fun e => match setAt e i with
  | some ns => (f e).bind fun d => match d with
    | .int k => if ns.length ≤ 4000 then .ok (.nx (e.set i (some (ownS (insU k ns))))) else .bad
    | _ => .bad
  | none => .bad
theorem asc_len {k : Int} {ns : List Int} (h : ns.Pairwise (· < ·)) : (insU k ns).length = if k ∈ ns then ns.length else ns.length + 1 := by
  induction ns with
  | nil => simp [insU]
  | cons y ys ih =>
    rw [List.pairwise_cons] at h
    unfold insU
    split
    · rename_i hk
      have : k ∉ y :: ys := fun z => by
        rcases List.mem_cons.mp z with rfl | z
        · omega
        · have := h.1 _ z; omega
      simp [this]
    · split
      · rename_i hk; subst hk; simp
      · rename_i h1 h2
        have := ih h.2
        simp only [List.length_cons, this, List.mem_cons, h2, false_or]
        split <;> rfl
theorem p_sadd {i : Nat} {x : Str} {a : Expr} {f : En → T D} {px apos cpos pos : Pos} (hw : X.w = g.w) (hN : X.N[i]? = some x) (hv : Vis X.env.scope x) (ha : PE X a (te g f))
    (hbase : attributeBase (.Name x px) "add" X.env (eval (.Name x px) X.env) = eval (.Name x px) X.env := by rfl)
    (hfew : ((backTo cpos (starEach [a] X.env)).all (fun x => !x.1) && (backToKw cpos (keywordEach [] X.env)).all (fun x => x.1.isSome)
      && decide ([a].length + ([] : List Keyword).length + (if ([] : List Keyword).isEmpty then 0 else 1) < 30)) = true := by rfl)
    (hline : (apos.endLine == cpos.line) = true := by rfl) (he : starEach [a] X.env = (false, eval a X.env) :: starEach [] X.env := by rfl)
    (hs : swapsWith (.Call (.Attribute (.Name x px) "add" apos) [a] [] cpos) none pos.line X.env = pure false := by rfl) (hd : (x == ("__debug__" : Str)) = false := by decide) (hcd : (x == ("__classdict__" : Str)) = false := by decide) :
    PS X (.Expr (.Call (.Attribute (.Name x px) "add" apos) [a] [] cpos) pos) (ts g (oSAdd i f)) :=
  (ps_expr (pe_sadd (pe_var hN hv hd hcd) (pa_cons ha pa_nil he) (hbase := hbase) (hfew := hfew) (hline := hline) (hs := he)) hs).imp fun Z σ H ⟨e, n, rp, h⟩ => by
    unfold oSAdd at h
    cases ei : setAt e i with
    | none => rw [ei] at h; exact bad_elim h
    | some ns =>
      rw [ei] at h
      obtain ⟨a, S, h1, h2, h3, h4, h5⟩ := rp.atS ei
      refine ⟨.ref a, h1, ⟨a, S, _, rfl, by rw [hw]; exact h3⟩, ?_⟩
      refine te_step rp h fun d m v H1 x1 r1 q1 h6 => ?_
      cases q1 with
      | int k =>
        dsimp only at h6
        split at h6
        · rename_i hl
          obtain ⟨a', S', k1, k2, k3, k4, k5⟩ := r1.atS ei
          rw [h1] at k1
          cases k1
          refine ⟨a, k, S', ns.length, rfl, rfl, by rw [hw]; exact k3, by unfold scanBound; omega, ?_⟩
          have hc : (if S' k = true then ns.length else ns.length + 1) = (insU k ns).length := by
            rw [asc_len k5]
            simp only [k4 k]
          rw [hc]
          have r2 := r1.upd (d := ownS (insU k ns)) k2 k3 setO_nt setO_nf (u := SetO X.w a (fun j => S' j || decide (j = k)) (insU k ns).length) setO_nt setO_nf h1 fun _ => .set k2 (by rw [hw]; exact upd_same) (fun j => by rw [mem_insU, Bool.or_eq_true, decide_eq_true_iff, k4 j, or_comm]) (insU_asc k k5)
          exact h6 σ _ ((Ext.m x1).trans (Ext.put k3 setO_nt setO_nf (List.mem_append_right _ (List.mem_map.mpr ⟨_, k2, rfl⟩)))) r2
        · exact bad_elim h6
      | _ => exact bad_elim h6
end
end PL
set_option Elab.async false
set_option linter.all false
set_option maxRecDepth 100000
set_option maxHeartbeats 4000000
namespace PL
open PySem L2 G9 GxR
section
variable {X : Cx} {g g' : G} {js : List Nat}
/-! ### own sets read -/
def fSIn (neg : Bool) (f : En → T D) (i : Nat) : En → T D := fun e => match setAt e i with
  | some ns => (f e).bind fun d => match d with
    | .int k => .ok (.bool (if neg then !decide (k ∈ ns) else decide (k ∈ ns)))
    | _ => .bad
  | none => .bad
theorem sin_core {neg : Bool} {f : En → T D} {i : Nat} {r : R2} (hw : X.w = g.w) (hr : ∀ k a S n H Q, H a = some (SetO X.w a S n) → Q (.bl (if neg then !S k else S k)) H → r (.int k) (.ref a) H Q) {σ : L2.St} {H : Hp} {Q : VK} (h : te g (fSIn neg f i) σ H Q) : tOp r (te g f) (tVar i) σ H Q := by
  obtain ⟨e, n, rp, h⟩ := h
  unfold fSIn at h
  cases ei : setAt e i with
  | none => rw [ei] at h; exact bad_elim h
  | some ns =>
    rw [ei] at h
    refine te_step rp h fun d m v H1 x1 r1 q1 h1 => ?_
    obtain ⟨a, S, h3, h4, h5, h6, h7⟩ := r1.atS ei
    cases q1 with
    | int k =>
      refine ⟨_, h3, hr k a S _ H1 Q (by rw [hw]; exact h5) ?_⟩
      have : (if neg then !S k else S k) = (if neg then !decide (k ∈ ns) else decide (k ∈ ns)) := by
        have : S k = decide (k ∈ ns) := by
          by_cases z : k ∈ ns
          · rw [(h6 k).mpr z, decide_eq_true z]
          · rw [decide_eq_false z]
            cases hS : S k with
            | false => rfl
            | true => exact absurd ((h6 k).mp hS) z
        rw [this]
      rw [this]
      exact h1 _ H1 x1 r1.ok.st (.bl _)
    | _ => exact bad_elim h1
theorem p_sin {i : Nat} {x : Str} {a : Expr} {f : En → T D} {px pos : Pos} (hw : X.w = g.w) (hN : X.N[i]? = some x) (hv : Vis X.env.scope x) (ha : PE X a (te g f)) (hm : behindInMarks .In (.Name x px) = false := by rfl) (hd : (x == ("__debug__" : Str)) = false := by decide) (hcd : (x == ("__classdict__" : Str)) = false := by decide) : PE X (.Compare a [.In] [.Name x px] pos) (te g (fSIn false f i)) :=
  (pe_cmpR or_sin ha (pe_var hN hv hd hcd) hm).imp fun σ H Q h => sin_core hw (fun k a S n H Q h1 h2 => ⟨k, a, S, n, rfl, rfl, h1, h2⟩) h
theorem p_snin {i : Nat} {x : Str} {a : Expr} {f : En → T D} {px pos : Pos} (hw : X.w = g.w) (hN : X.N[i]? = some x) (hv : Vis X.env.scope x) (ha : PE X a (te g f)) (hm : behindInMarks .NotIn (.Name x px) = false := by rfl) (hd : (x == ("__debug__" : Str)) = false := by decide) (hcd : (x == ("__classdict__" : Str)) = false := by decide) : PE X (.Compare a [.NotIn] [.Name x px] pos) (te g (fSIn true f i)) :=
  (pe_cmpR or_snotin ha (pe_var hN hv hd hcd) hm).imp fun σ H Q h => sin_core hw (fun k a S n H Q h1 h2 => ⟨k, a, S, n, rfl, rfl, h1, h2⟩) h
/-- a comparison as a test -/
theorem p_cmpt {a : Expr} {op : CmpOp} {b : Expr} {f : En → T D} {pos : Pos} (h : PE X (.Compare a [op] [b] pos) (te g f)) (ht : ∀ t, PE X (.Compare a [op] [b] pos) t → PT X (.Compare a [op] [b] pos) (tB t)) : PT X (.Compare a [op] [b] pos) (tt g (fB f)) := (ht _ h).imp fun σ H Q h => te_asB h
theorem p_tsin {i : Nat} {x : Str} {a : Expr} {f : En → T D} {px pos : Pos} (hw : X.w = g.w) (hN : X.N[i]? = some x) (hv : Vis X.env.scope x) (ha : PE X a (te g f)) (hm : behindInMarks .In (.Name x px) = false := by rfl) (hd : (x == ("__debug__" : Str)) = false := by decide) (hcd : (x == ("__classdict__" : Str)) = false := by decide) : PT X (.Compare a [.In] [.Name x px] pos) (tt g (fB (fSIn false f i))) :=
  (pt_cmpR or_sin ha (pe_var hN hv hd hcd) hm).imp fun σ H Q h => sin_core hw (fun k a S n H Q h1 h2 => ⟨k, a, S, n, rfl, rfl, h1, h2⟩) (te_asB h)
theorem p_tsnin {i : Nat} {x : Str} {a : Expr} {f : En → T D} {px pos : Pos} (hw : X.w = g.w) (hN : X.N[i]? = some x) (hv : Vis X.env.scope x) (ha : PE X a (te g f)) (hm : behindInMarks .NotIn (.Name x px) = false := by rfl) (hd : (x == ("__debug__" : Str)) = false := by decide) (hcd : (x == ("__classdict__" : Str)) = false := by decide) : PT X (.Compare a [.NotIn] [.Name x px] pos) (tt g (fB (fSIn true f i))) :=
  (pt_cmpR or_snotin ha (pe_var hN hv hd hcd) hm).imp fun σ H Q h => sin_core hw (fun k a S n H Q h1 h2 => ⟨k, a, S, n, rfl, rfl, h1, h2⟩) (te_asB h)
/-- sorted(x) -/
def fSSort (i : Nat) : En → T D := fun e => match setAt e i with
  | some ns => if ns.length < 64 then .ok (.list (ns.map .int)) else .bad
  | none => .bad
theorem p_ssort {i : Nat} {x : Str} {p px pos : Pos} (hc : X.calm = true) (hw : X.w = g.w) (hg : Gl X "sorted") (hm : X.mg "sorted" = none) (hN : X.N[i]? = some x) (hv : Vis X.env.scope x) (hd : (x == ("__debug__" : Str)) = false := by decide) (hcd : (x == ("__classdict__" : Str)) = false := by decide)
    (he : starEach [.Name x px] X.env = (false, eval (.Name x px) X.env) :: starEach [] X.env := by rfl) : PE X (.Call (.Name "sorted" p) [.Name x px] [] pos) (te g (fSSort i)) :=
  (pe_callB (cr_sortedSet hc) hg hm PyProof.Rows.boot_sorted (pa_cons (pe_var hN hv hd hcd) pa_nil he) (he := he)).imp fun σ H Q ⟨e, n, rp, h⟩ => by
    unfold fSSort at h
    cases ei : setAt e i with
    | none => rw [ei] at h; exact bad_elim h
    | some ns =>
      rw [ei] at h
      dsimp only at h
      split at h
      · rename_i h64
        obtain ⟨a, S, h3, h4, h5, h6, h7⟩ := rp.atS ei
        refine ⟨_, h3, a, S, _, rfl, by rw [hw]; exact h5, h64, fun out p ha hm hl hp => ?_⟩
        have eo : out = ns := asc_ext ha h7 fun k => by rw [hm k, h6 k]
        rw [eo]
        exact h _ _ (.new hp) (rp.ok.st.ext (.new hp)) (.lst (rp.ok.st.fresh hp) upd_same (by simp [sizeLine_eq]; omega) (Dqs.mk_ints _))
      · exact bad_elim h
def fSLen (i : Nat) : En → T D := fun e => match setAt e i with
  | some ns => if ns.length ≤ 100000 then .ok (.int (ns.length : Nat)) else .bad
  | none => .bad
theorem p_slen {i : Nat} {x : Str} {p px pos : Pos} (hw : X.w = g.w) (hg : Gl X "len") (hm : X.mg "len" = none) (hN : X.N[i]? = some x) (hv : Vis X.env.scope x) (hd : (x == ("__debug__" : Str)) = false := by decide) (hcd : (x == ("__classdict__" : Str)) = false := by decide)
    (he : starEach [.Name x px] X.env = (false, eval (.Name x px) X.env) :: starEach [] X.env := by rfl) : PE X (.Call (.Name "len" p) [.Name x px] [] pos) (te g (fSLen i)) :=
  (pe_callB cr_lenS hg hm PySem.boot_len (pa_cons (pe_var hN hv hd hcd) pa_nil he) (he := he)).imp fun σ H Q ⟨e, n, rp, h⟩ => by
    unfold fSLen at h
    cases ei : setAt e i with
    | none => rw [ei] at h; exact bad_elim h
    | some ns =>
      rw [ei] at h
      dsimp only at h
      split at h
      · rename_i hl
        obtain ⟨a, S, h3, h4, h5, h6, h7⟩ := rp.atS ei
        exact ⟨_, h3, a, S, _, rfl, by rw [hw]; exact h5, hl, h _ H (.refl H) rp.ok.st (.int _)⟩
      · exact bad_elim h
/-! ### own lists -/
theorem Stt.newL {H : Hp} {n : Nat} (s : Stt g H n) {a : Addr} (h : H a = none) {xs : List V} {o : Option Nat} : Stt (g.add a o) (L2.upd H a (.lst xs)) n := (s.ext (.new h)).add (s.freshS h) (s.fresh h) upd_same (fun _ z => by cases z) (fun z => z)
/-- an expression that makes a new list -/
def tn (g : G) (f : En → T (List D)) : TE := fun σ H Q => ∃ e n, Rp g σ H e n ∧ (f e).wp n (fun ds m => ∀ a vs H1 H' k, ds.length ≤ sizeLine → Ext g.sv H H1 → Stt g H1 k → H1 a = none → Ext g.sv H1 H' → Stt (g.add a) H' m → H' a = some (.lst vs) → Dqs (g.add a) H' vs ds → Q (.ref a) H') (Px g H)
theorem n_lst {es : List Expr} {k : En → T (List D)} {pos : Pos} (h : PA X es (ta g k)) : PE X (.List es pos) (tn g fun e => (k e).bind fun ds => if ds.length ≤ sizeLine then .ok ds else .bad) :=
  (pe_lst h).imp fun σ H Q ⟨e, n, rp, h⟩ => ta_step rp h fun ds m vs H1 x1 r1 q1 h1 => by
    split at h1
    · rename_i hl
      refine ⟨by rw [q1.len]; exact hl, fun p hp => ?_⟩
      exact h1 p vs H1 _ m hl x1 r1.ok.st hp (.new hp) (r1.ok.st.newL hp) upd_same ((Dqs.add hp _ _ q1).ext (.new hp))
    · exact bad_elim h1
theorem n_list {a : Expr} {f : En → T D} {p pos : Pos} (hK : X.K = g.K) (hg : Gl X "list") (hm : X.mg "list" = none) (ha : PE X a (te g f)) (he : starEach [a] X.env = (false, eval a X.env) :: starEach [] X.env := by rfl) : PE X (.Call (.Name "list" p) [a] [] pos) (tn g (iSeq f)) :=
  (pe_callTy call_list_of hg hm PyProof.Rows.boot_list (pa_cons ha pa_nil he) (he := he)).imp fun σ H Q ⟨e, n, rp, h⟩ => te_step rp h fun d m v H1 x1 r1 q1 h1 => by
    cases q1 with
    | tup a l q => exact ⟨_, _, rfl, .inr (by rw [hK]; exact a), fun b hb => h1 b _ H1 _ m l x1 r1.ok.st hb (.new hb) (r1.ok.st.newL hb) upd_same ((Dqs.add hb _ _ q).ext (.new hb))⟩
    | lst nv a l q => exact ⟨_, _, rfl, .inl (.of a), fun b hb => h1 b _ H1 _ m l x1 r1.ok.st hb (.new hb) (r1.ok.st.newL hb) upd_same ((Dqs.add hb _ _ q).ext (.new hb))⟩
    | _ => exact bad_elim h1
theorem n_lc {elt t iter : Expr} {ifs : List Expr} {scope : Scope} {own : List (Str × Nat)} {pos : Pos} {fi : En → T (List D)} {gs : List Nat} {gt : D → En → T En} {c : En → T Bool} {f : En → T D} (hc : X.calm = true) (hN : X.N.Nodup) (hi : PI X t iter (ti g fi)) (ok : BlkOk X.N X.env.scope scope own)
    (hgs : ∀ i ∈ gs, i ∈ own.map (·.2))
    (hg : ∀ (a : Addr) (s : Shared) (H : Hp) (C : Addr) (cl : List (Str × Addr)) (fp : List Addr), PG (X.blk s H scope (compEnvC scope cl C X.env) fp) t (tg (g.add a) gs gt))
    (ht : ∀ (a : Addr) (s : Shared) (H : Hp) (C : Addr) (cl : List (Str × Addr)) (fp : List Addr), PTs (X.blk s H scope (compEnvC scope cl C X.env) fp) ifs (tt (g.add a) c))
    (he : ∀ (a : Addr) (s : Shared) (H : Hp) (C : Addr) (cl : List (Str × Addr)) (fp : List Addr), PE (X.blk s H scope (compEnvC scope cl C X.env) fp) elt (te (g.add a) f)) (hs : ∀ x, foldedSetIterable iter X.env x = pure x := by intro _; rfl) :
    PE X (.ListComp elt [⟨t, iter, ifs, 0⟩] scope pos) (tn g fun e => (fi e).bind fun ds => lcL gt c f (wipeE e (own.map (·.2))) ds) :=
  (lc_gen hc hN hi ok hgs hg ht he hs).imp fun σ H Q ⟨e, n, rp, h⟩ => ⟨e, n, rp, T.wp_mono h (fun ys m z a H1 H' vs k hl x1 s1 ha x2 s2 e1 q => z a vs H1 H' k hl x1 s1 ha x2 s2 e1 q) fun _ _ z => z⟩
theorem n_setLc {i : Nat} {y : Str} {py : Pos} {spos : Pos} {elt t iter : Expr} {ifs : List Expr} {scope : Scope} {own : List (Str × Nat)} {pos : Pos} {fi : En → T (List D)} {gs : List Nat} {gt : D → En → T En} {c : En → T Bool} {f : En → T D} (hc : X.calm = true) (hN : X.N.Nodup) (hy : X.N[i]? = some y) (hyl : X.env.scope.names.lookup y = some .local) (hsw : swapsWith (.ListComp elt [⟨t, iter, ifs, 0⟩] scope pos) (some (.Name y py)) spos.line X.env = pure true) (hi : PI X t iter (ti g fi)) (ok : BlkOk X.N X.env.scope scope own)
    (hgs : ∀ i ∈ gs, i ∈ own.map (·.2))
    (hg : ∀ (a : Addr) (s : Shared) (H : Hp) (C : Addr) (cl : List (Str × Addr)) (fp : List Addr), PG (X.blk s H scope (compEnvC scope cl C X.env) fp) t (tg (g.add a) gs gt))
    (ht : ∀ (a : Addr) (s : Shared) (H : Hp) (C : Addr) (cl : List (Str × Addr)) (fp : List Addr), PTs (X.blk s H scope (compEnvC scope cl C X.env) fp) ifs (tt (g.add a) c))
    (he : ∀ (a : Addr) (s : Shared) (H : Hp) (C : Addr) (cl : List (Str × Addr)) (fp : List Addr), PE (X.blk s H scope (compEnvC scope cl C X.env) fp) elt (te (g.add a) f)) (hs : ∀ x, foldedSetIterable iter X.env x = pure x := by intro _; rfl) :
    PS X (.Assign [.Name y py] (.ListComp elt [⟨t, iter, ifs, 0⟩] scope pos) spos) (tAsg (tn g fun e => (fi e).bind fun ds => lcL gt c f (wipeE e (own.map (·.2))) ds) (gName i)) :=
  (lc_set (i := i) hc hN hy hyl hsw hi ok hgs hg ht he hs).imp fun Z σ H ⟨e, n, rp, h⟩ => ⟨e, n, rp, T.wp_mono h (fun ys m z a H1 H' vs k hl x1 s1 ha x2 s2 e1 q => z a vs H1 H' k hl x1 s1 ha x2 s2 e1 q) fun _ _ z => z⟩
theorem Dqs.cgw {H : Hp} {a : Addr} {o o' : Option Nat} {vs : List V} {ds : List D} (h : Dqs (g.add a o) H vs ds) : Dqs (g.add a o') H vs ds := Dqs.cg (g := g.add a o) (g' := g.add a o') rfl rfl (fun b hb => by rw [G.vol_add] at hb ⊢; exact hb) _ _ h
def sOwL (i : Nat) (f : En → T (List D)) (t : En → T Fl) : En → T Fl := fun e => (f e).bind fun ds => t (e.set i (some (ownL ds)))
theorem r_ownL {i : Nat} {st : Stmt} {f : En → T (List D)} {rest : List Stmt} {t : En → T Fl} (o : Over g g' js) (nj : NJ g' i) (hset : PS X st (tAsg (tn g' f) (gName i)))
    (hr : ∀ b, Over g (g'.add b (some i)) (i :: js) → PSs X rest (tr g (g'.add b (some i)) t)) :
    PSs X (st :: rest) (tr g g' (sOwL i f t)) := by
  have hrest : PSs X rest (fun Z σ H => ∃ b, Over g (g'.add b (some i)) (i :: js) ∧ tr g (g'.add b (some i)) t Z σ H) := ⟨fun pins s σ H Z I ⟨b, ob, h⟩ => (hr b ob).run pins s σ H Z I h⟩
  refine (pss_cons hset hrest).imp fun Z σ H ⟨e, n, H0, rp, w, x0, h⟩ => ?_
  refine ⟨e, n, rp, T.wp_mono (T.wp_bind.mp h) (fun ds m h1 b vs H1 H' k hl x1 s1 hb x2 s2 e1 q => ?_) fun _ _ z => o.px0 w x0 z⟩
  have st1 : Stt (g'.add b (some i)) H' m := Stt.add ⟨s2.sta, fun c hc => s2.ad c (List.mem_cons_of_mem _ hc), s1.ow, s1.one⟩ (s1.freshS hb) (s1.fresh hb) e1 (fun _ z => by cases z) (fun z => z)
  have r1 : Rp g' σ H1 e k := rp.to x1 s1
  have r2 := r1.own hb x2 st1 (d := ownL ds) (.lst List.mem_cons_self e1 hl (Dqs.cgw q))
  have x01 := w.ext o.sv x0 (Ext.m x1)
  have x02 := w.ext o.sv x01 (Ext.m x2)
  exact ⟨b, .more o nj (s1.fresh hb) s1.ow s1.one, _, m, H0, r2, w.more x01 (o.mv s1.ow (s1.fresh hb)) hb, x02, h1⟩
/-- x.append(e) -/
def oApp (i : Nat) (f : En → T D) : En → T Fl := fun e => match lstAt e i with
  | some ds => (f e).bind fun d => if ds.length < 16777000 then .ok (.nx (e.set i (some (ownL (ds ++ [d]))))) else .bad
  | none => .bad
theorem p_app {i : Nat} {x : Str} {a : Expr} {f : En → T D} {px apos cpos pos : Pos} (hN : X.N[i]? = some x) (hv : Vis X.env.scope x) (ha : PE X a (te g f))
    (hbase : attributeBase (.Name x px) "append" X.env (eval (.Name x px) X.env) = eval (.Name x px) X.env := by rfl)
    (hfew : ((backTo cpos (starEach [a] X.env)).all (fun x => !x.1) && (backToKw cpos (keywordEach [] X.env)).all (fun x => x.1.isSome)
      && decide ([a].length + ([] : List Keyword).length + (if ([] : List Keyword).isEmpty then 0 else 1) < 30)) = true := by rfl)
    (hline : (apos.endLine == cpos.line) = true := by rfl) (he : starEach [a] X.env = (false, eval a X.env) :: starEach [] X.env := by rfl)
    (hs : swapsWith (.Call (.Attribute (.Name x px) "append" apos) [a] [] cpos) none pos.line X.env = pure false := by rfl) (hd : (x == ("__debug__" : Str)) = false := by decide) (hcd : (x == ("__classdict__" : Str)) = false := by decide) :
    PS X (.Expr (.Call (.Attribute (.Name x px) "append" apos) [a] [] cpos) pos) (ts g (oApp i f)) :=
  (ps_expr (pe_bm PySem.F.plainAttrs_list PySem.F.slot_list_append PySem.F.type_list_append mt_append (pe_var hN hv hd hcd) (pa_cons ha pa_nil he) (hbase := hbase) (hfew := hfew) (hline := hline) (hs := he)) hs).imp fun Z σ H ⟨e, n, rp, h⟩ => by
    unfold oApp at h
    cases ei : lstAt e i with
    | none => rw [ei] at h; exact bad_elim h
    | some ds =>
      rw [ei] at h
      obtain ⟨a, xs, h1, h2, h3, h4, h5⟩ := rp.atL ei
      refine ⟨.ref a, h1, .inl ⟨rfl, xs, .of h3⟩, ?_⟩
      refine te_step rp h fun d m v H1 x1 r1 q1 h6 => ?_
      split at h6
      · rename_i hl
        obtain ⟨a', xs', k1, k2, k3, k4, k5⟩ := r1.atL ei
        rw [h1] at k1
        cases k1
        have hn : NoTbl (.lst xs') := fun _ z => by cases z
        have hn' : NoTbl (.lst (xs' ++ [v])) := fun _ z => by cases z
        have hf : ¬ Fix (.lst xs') := fun z => z
        have hf' : ¬ Fix (.lst (xs' ++ [v])) := fun z => z
        refine ⟨a, xs', v, rfl, rfl, k3, by rw [k5.len, sizeLine_eq]; omega, ?_⟩
        have hv : Ext g.vol H1 (upd H1 a (.lst (xs' ++ [v]))) := Ext.put k3 hn hf (List.mem_append_right _ (r1.ok.st.ow _ k2))
        have r2 := r1.upd (d := ownL (ds ++ [d])) k2 k3 hn hf (u := .lst (xs' ++ [v])) hn' hf' h1 fun ex => .lst k2 upd_same (by rw [List.length_append, sizeLine_eq]; simp; omega) ((Dqs.extv hv _ _ k5).app (.cons (ex _ _ q1) .nil))
        exact h6 σ _ ((Ext.m x1).trans (Ext.put k3 hn hf (List.mem_append_right _ (List.mem_map.mpr ⟨_, k2, rfl⟩)))) r2
      · exact bad_elim h6
/-- x[j] = e -/
def oSetI (i : Nat) (f fi : En → T D) : En → T Fl := fun e => match lstAt e i with
  | some ds => (f e).bind fun d => (fi e).bind fun k => match k with
    | .int j => match ixN ds.length j with
      | some m => .ok (.nx (e.set i (some (ownL (ds.set m d)))))
      | none => .bad
    | _ => .bad
  | none => .bad
theorem Dqs.set {H : Hp} {v : V} {d : D} (q : Dq g H v d) : ∀ {vs : List V} {ds : List D} (i : Nat), Dqs g H vs ds → Dqs g H (vs.set i v) (ds.set i d)
  | _, [], i, h => by cases h; exact .nil
  | _, d :: ds, 0, h => by
    cases h with
    | cons a b => exact .cons q b
  | _, d :: ds, i + 1, h => by
    cases h with
    | cons a b => exact .cons a (Dqs.set q i b)
theorem p_setI {i : Nat} {x : Str} {a b : Expr} {f fi : En → T D} {px spos pos : Pos} (hN : X.N[i]? = some x) (hv : Vis X.env.scope x) (ha : PE X a (te g f)) (hb : PE X b (te g fi))
    (hat : ∀ v, assign (.Subscript (.Name x px) b spos) X.env v = (do
      let ov ← holding [v] (eval (.Name x px) X.env)
      let iv ← holding [v, ov] (eval b X.env)
      standAt spos
      holding [v, ov, iv] (setItem ov iv v)
      release [v, ov, iv] []) := by intro _; rfl)
    (hs : swapsWithSole [.Subscript (.Name x px) b spos] a pos.line X.env = pure false := by rfl) (hw : swappedStores [.Subscript (.Name x px) b spos] a X.env = pure none := by rfl)
    (h1 : (assignEach [.Subscript (.Name x px) b spos] X.env).map (·.2) = [assign (.Subscript (.Name x px) b spos) X.env] := by rfl) (hd : (x == ("__debug__" : Str)) = false := by decide) (hcd : (x == ("__classdict__" : Str)) = false := by decide) :
    PS X (.Assign [.Subscript (.Name x px) b spos] a pos) (ts g (oSetI i f fi)) :=
  (ps_asg ha (pg_sub (pe_var hN hv hd hcd) hb set_list hat) hs hw h1).imp fun Z σ H ⟨e, n, rp, h⟩ => by
    unfold oSetI at h
    cases ei : lstAt e i with
    | none => rw [ei] at h; exact bad_elim h
    | some ds =>
      rw [ei] at h
      refine te_step rp h fun d m v H1 x1 r1 q1 h6 => ?_
      obtain ⟨a, xs, h1, h2, h3, h4, h5⟩ := r1.atL ei
      refine ⟨.ref a, h1, te_step r1 (T.wp_mono h6 (fun _ _ z => z) fun _ _ => Px.to x1) fun k m2 w H2 x2 r2 q2 h7 => ?_⟩
      cases q2 with
      | int j =>
        dsimp only at h7
        cases ej : ixN ds.length j with
        | none => rw [ej] at h7; exact bad_elim h7
        | some t =>
          rw [ej] at h7
          obtain ⟨a', xs', k1, k2, k3, k4, k5⟩ := r2.atL ei
          rw [h1] at k1
          cases k1
          have hn : NoTbl (.lst xs') := fun _ z => by cases z
          have hn' : NoTbl (.lst (xs'.set t v)) := fun _ z => by cases z
          have hf : ¬ Fix (.lst xs') := fun z => z
          have hf' : ¬ Fix (.lst (xs'.set t v)) := fun z => z
          refine ⟨a, xs', j, t, rfl, rfl, k3, by rw [k5.len]; exact ej, ?_⟩
          have hv : Ext g.vol H2 (upd H2 a (.lst (xs'.set t v))) := Ext.put k3 hn hf (List.mem_append_right _ (r2.ok.st.ow _ k2))
          have r3 := r2.upd (d := ownL (ds.set t d)) k2 k3 hn hf (u := .lst (xs'.set t v)) hn' hf' h1 fun ex => .lst k2 upd_same (by rw [List.length_set]; exact k4) (Dqs.set (ex _ _ (q1.ext x2)) t (Dqs.extv hv _ _ k5))
          exact h7 σ _ ((Ext.m (x1.trans x2)).trans (Ext.put k3 hn hf (List.mem_append_right _ (List.mem_map.mpr ⟨_, k2, rfl⟩)))) r3
      | _ => exact bad_elim h7
/-- an own list read: len(x), x[j], tuple(x), for .. in x, its truth -/
def fLLen (i : Nat) : En → T D := fun e => match lstAt e i with
  | some ds => .ok (.int (ds.length : Nat))
  | none => .bad
theorem p_llen {i : Nat} {x : Str} {p px pos : Pos} (hg : Gl X "len") (hm : X.mg "len" = none) (hN : X.N[i]? = some x) (hv : Vis X.env.scope x) (hd : (x == ("__debug__" : Str)) = false := by decide) (hcd : (x == ("__classdict__" : Str)) = false := by decide)
    (he : starEach [.Name x px] X.env = (false, eval (.Name x px) X.env) :: starEach [] X.env := by rfl) : PE X (.Call (.Name "len" p) [.Name x px] [] pos) (te g (fLLen i)) :=
  (pe_callB call_len_seq hg hm PySem.boot_len (pa_cons (pe_var hN hv hd hcd) pa_nil he) (he := he)).imp fun σ H Q ⟨e, n, rp, h⟩ => by
    unfold fLLen at h
    cases ei : lstAt e i with
    | none => rw [ei] at h; exact bad_elim h
    | some ds =>
      rw [ei] at h
      obtain ⟨a, xs, h1, h2, h3, h4, h5⟩ := rp.atL ei
      exact ⟨_, h1, _, xs, rfl, .inl (.of h3), by rw [h5.len]; exact h _ H (.refl H) rp.ok.st (.int _)⟩
def fLTup (i : Nat) : En → T D := fun e => match lstAt e i with
  | some ds => .ok (.tuple ds)
  | none => .bad
theorem p_ltup {i : Nat} {x : Str} {p px pos : Pos} (hg : Gl X "tuple") (hm : X.mg "tuple" = none) (hN : X.N[i]? = some x) (hv : Vis X.env.scope x) (hd : (x == ("__debug__" : Str)) = false := by decide) (hcd : (x == ("__classdict__" : Str)) = false := by decide)
    (he : starEach [.Name x px] X.env = (false, eval (.Name x px) X.env) :: starEach [] X.env := by rfl) : PE X (.Call (.Name "tuple" p) [.Name x px] [] pos) (te g (fLTup i)) :=
  (pe_callTy call_tuple_of hg hm PyProof.Rows.boot_tuple (pa_cons (pe_var hN hv hd hcd) pa_nil he) (he := he)).imp fun σ H Q ⟨e, n, rp, h⟩ => by
    unfold fLTup at h
    cases ei : lstAt e i with
    | none => rw [ei] at h; exact bad_elim h
    | some ds =>
      rw [ei] at h
      obtain ⟨a, xs, h1, h2, h3, h4, h5⟩ := rp.atL ei
      exact ⟨_, h1, _, xs, rfl, .inl ⟨.of h3, fun b hb => h _ _ (.new hb) (rp.ok.st.ext (.new hb)) (.tup SqT.new h4 (h5.ext (.new hb)))⟩⟩
def fLIx (i : Nat) (f : En → T D) : En → T D := fun e => match lstAt e i with
  | some ds => (f e).bind fun k => oIx (.list ds) k
  | none => .bad
theorem p_lix {i : Nat} {x : Str} {b : Expr} {f : En → T D} {px pos : Pos} (hN : X.N[i]? = some x) (hv : Vis X.env.scope x) (hb : PE X b (te g f)) (hs : PlainIx b := by intro _ _; rfl) (hd : (x == ("__debug__" : Str)) = false := by decide) (hcd : (x == ("__classdict__" : Str)) = false := by decide) : PE X (.Subscript (.Name x px) b pos) (te g (fLIx i f)) :=
  (pe_ix ix_list (pe_var hN hv hd hcd) hb hs).imp fun σ H Q ⟨e, n, rp, h⟩ => by
    unfold fLIx at h
    cases ei : lstAt e i with
    | none => rw [ei] at h; exact bad_elim h
    | some ds =>
      rw [ei] at h
      obtain ⟨a, xs, h1, h2, h3, h4, h5⟩ := rp.atL ei
      refine ⟨_, h1, te_step rp h fun k m w H1 x1 r1 q1 h6 => ?_⟩
      obtain ⟨a', xs', k1, k2, k3, k4, k5⟩ := r1.atL ei
      rw [h1] at k1
      cases k1
      cases q1 with
      | int j =>
        have h6 : (match atI ds j with
          | some d => (T.ok d : T D)
          | none => .bad).wp m (Pd g H Q) (Px g H) := h6
        cases ej : atI ds j with
        | none => rw [ej] at h6; exact bad_elim h6
        | some d =>
          rw [ej] at h6
          obtain ⟨v, hv, qd⟩ := k5.atI ej
          exact ⟨_, xs', j, v, rfl, rfl, .of k3, hv, h6 _ H1 x1 r1.ok.st qd⟩
      | _ => exact bad_elim h6
end
/-! ### a def's promise by its body's reading -/
def startE (N : List Str) (ds : List D) : En := ds.map some ++ List.replicate (N.length - ds.length) none
def endD : Fl → T D
  | .rt d => .ok d
  | .nx _ => .ok .none
  | _ => .bad
def runD (N : List Str) (t : En → T Fl) (ds : List D) : T D := (t (startE N ds)).bind endD
end PL
set_option Elab.async false
set_option linter.all false
set_option maxRecDepth 100000
set_option maxHeartbeats 4000000
namespace PL
open PySem L2 G9 GxR
def noX {α : Type} : T α → T α
  | .ok a => .ok a
  | .bad => .bad
  | .exc _ => .bad
  | .draw L k => .draw L fun r => noX (k r)
@[simp] theorem noX_ok {α : Type} (a : α) : noX (.ok a : T α) = .ok a := rfl
@[simp] theorem noX_bad {α : Type} : noX (.bad : T α) = .bad := rfl
@[simp] theorem noX_draw {α : Type} (L : Int) (k : Int → T α) : noX (.draw L k) = .draw L fun r => noX (k r) := rfl
theorem wp_noX {α : Type} : ∀ {t : T α} {n : Nat} {Q : α → Nat → Prop} {E : Ex → Nat → Prop}, (noX t).wp n Q E → t.wp n Q fun _ _ => False
  | .ok _, _, _, _, h => h
  | .bad, _, _, _, h => h
  | .exc _, _, _, _, h => h.elim
  | .draw L k, _, _, _, h => ⟨h.1, h.2.1, h.2.2.1, fun r a b => wp_noX (h.2.2.2 r a b)⟩
section
variable {g g' : G} {H : Hp}
theorem Dqs.sets : True := trivial
def G.fn (g : G) : G := { g with ow := [] }
theorem dq_fn : ∀ {v d}, Dq g H v d → Dq g.fn H v d := fun {v d} h => Dq.cg (g := g) (g' := g.fn) rfl rfl (fun _ h => h) d v h
theorem dq_un : ∀ {v d}, Dq g.fn H v d → Dq g H v d := fun {v d} h => Dq.cg (g := g.fn) (g' := g) rfl rfl (fun _ h => h) d v h
theorem dqs_fn : ∀ {v d}, Dqs g H v d → Dqs g.fn H v d := fun {v d} h => Dqs.cg (g := g) (g' := g.fn) rfl rfl (fun _ h => h) d v h
end
/-- a def that gives what F says, nothing raised -/
def Qs (K : PySem.W.Frag) (w : World) (Ps : List Addr) (F : List D → T D) : Sp := fun vs H Q _ => ∃ (g : G) (ds : List D) (n : Nat), g.K = K ∧ g.w = w ∧ g.Ps = Ps ∧ g.ow = [] ∧ Ok g H n ∧ Dqs g H vs ds ∧ (F ds).wp n (Pd g H Q) fun _ _ => False
section
variable {X : Cx} {g : G}
theorem p_call {k : Nat} {f : Addr} {fd : FuncData} {ps : List Str} {F : List D → T D} {Ps : List Addr} {x : Str} {p pos : Pos} {e : Expr} {es : List Expr} {fa : En → T (List D)} (Fn : FnG X.prog X.w X.K X.mg X.base k f fd ps (Qs X.K X.w Ps F)) (hgu : X.A.guards = some []) (hr : Room k X.A) (hg : Gl X x) (hm : X.mg x = some (.ref f)) (hk : PySem.W.keepIn X.K (.ref f) = true) (hb : Binds X.K fd ps [])
    (hK : X.K = g.K) (hw : X.w = g.w) (hP : g.Ps = Ps)
    (ha : PA X (e :: es) (ta g fa)) (hdb : (x == ("__debug__" : Str)) = false := by decide +kernel) (he : starEach (e :: es) X.env = (false, eval e X.env) :: starEach es X.env := by rfl) (hpl : (backTo pos (starEach es X.env)).any (·.1) = false := by rfl) :
    PE X (.Call (.Name x p) (e :: es) [] pos) (te g fun en => (fa en).bind fun ds => noX (F ds)) :=
  (pg_call Fn hgu hr hg hm hk hb ha hdb he hpl).imp fun σ H Q ⟨en, n, rp, h⟩ => ta_step rp h fun ds m vs H1 x1 r1 q1 h1 => by
    refine ⟨g.fn, ds, m, hK.symm, hw.symm, hP, rfl, ⟨⟨r1.ok.st.sta, r1.ok.st.ad, (fun p (hp : p ∈ []) => nomatch hp), (fun p (hp : p ∈ []) => nomatch hp)⟩, r1.ok.tb⟩, dqs_fn q1, ?_⟩
    refine T.wp_mono (wp_noX h1) (fun d m' z v H' x2 s2 q2 => ?_) fun _ _ z => z
    exact z v H' (x1.trans x2) ⟨s2.sta, s2.ad, r1.ok.st.ow, r1.ok.st.one⟩ (dq_un q2)
end
section
variable {P : Program} {w : World} {K : PySem.W.Frag} {mg : Str → Option Value} {base : Heap}
theorem start_get {N : List Str} {vs : List V} {g : G} {H : Hp} {ds : List D} (q : Dqs g H vs ds) : ∀ (i : Nat) (d : D), (startE N ds)[i]? = some (some d) → ∃ v, (L2.start N vs)[i]? = some (some v) ∧ Sl g H i v d := fun i d h => by
  unfold startE at h
  unfold L2.start
  by_cases hi : i < ds.length
  · rw [List.getElem?_append_left (by simpa using hi), List.getElem?_map] at h
    have h' : ds[i]? = some d := by
      cases e : ds[i]? with
      | none => rw [e] at h; cases h
      | some d' => rw [e] at h; simpa using h
    obtain ⟨v, e, qd⟩ := q.get h'
    refine ⟨v, ?_, .val qd⟩
    rw [List.getElem?_append_left (by rw [List.length_map, q.len]; exact hi), List.getElem?_map, e]
    rfl
  · rw [List.getElem?_append_right (by simpa using hi)] at h
    simp only [List.getElem?_replicate] at h
    split at h <;> cases h
/-- a def of the text keeps what its body's reading says -/
theorem p_fn {x qual : Str} {st : Stmt} {f c : Addr} {fd : FuncData} {N ps : List Str} {k : Nat} {Ps : List Addr} {t : En → T Fl} (F : FunC K x qual st f fd c) (S : FnScope N ps (defScope st)) (hN : ps.length ≤ N.length) {F' : List D → T D} (hF : ∀ ds, ds.length = ps.length → F' ds = runD N t ds) (hl : ∀ ds, ds.length ≠ ps.length → F' ds = .bad)
    (hbody : ∀ (A : Around) (outer : List Env) (s : Shared) (H : Hp) (g : G), A.guards = some [] → Room k (A.deeper (PyProof.Rows.envOfC qual (defScope st) s.heap.objs.size f (.ref c))) → g.K = K → g.w = w → g.Ps = Ps → g.ow = [] →
      PSs (cxOf CX0 P w K mg base N qual (defScope st) f (.ref c) A outer s H E0).nox (defBody st) (ts g t)) : FnG P w K mg base (k + 1) f fd ps (Qs K w Ps F') := by
  refine F.ok S (fun vs H Q E h => ?_) (fun A outer s H vs Q hg hr h => ?_)
  · obtain ⟨g, ds, n, _, _, _, _, _, q, z⟩ := h
    rw [q.len]
    by_cases e : ds.length = ps.length
    · exact e
    · rw [hl ds e] at z; exact z.elim
  · obtain ⟨g, ds, n, hK, hw, hP, how, ok, q, z⟩ := h
    have e : ds.length = ps.length := by
      by_cases e : ds.length = ps.length
      · exact e
      · rw [hl ds e] at z; exact z.elim
    rw [hF ds e, runD] at z
    refine ⟨_, hbody A outer s H g hg hr hK hw hP how, startE N ds, n, ⟨ok, ?_, start_get q⟩, T.wp_mono (T.wp_bind.mp z) (fun fl m z => ?_) fun _ _ z => z.elim⟩
    · simp [L2.start, startE, q.len]
    · have hsv : g.mv = g.sv := by unfold G.mv; rw [how]; simp
      cases fl with
      | rt d => exact fun v H' x s' qd => z v H' (by rw [hsv] at x; exact x) s' qd
      | nx e' => exact fun σ' H' x r' => z .non H' (by rw [hsv] at x; exact x) r'.ok.st .non
      | bk e' => exact z.elim
      | ct e' => exact z.elim
end
end PL
set_option Elab.async false
set_option linter.all false
set_option maxRecDepth 100000
set_option maxHeartbeats 4000000
namespace PL
open PySem L2 G9 GxR
theorem fn_imp {P : Program} {w : World} {K : PySem.W.Frag} {mg : Str → Option Value} {base : Heap} {k : Nat} {f : Addr} {fd : FuncData} {ps : List Str} {sp sp' : Sp} (F : FnG P w K mg base k f fd ps sp) (h : ∀ vs H Q E, sp' vs H Q E → sp vs H Q E) : FnG P w K mg base k f fd ps sp' :=
  ⟨fun vs H Q E z => F.len vs H Q E (h vs H Q E z), fun A outer s H args us vs Q hg hr e0 hb r hsp => F.run A outer s H args us vs Q hg hr e0 hb r (h vs H Q E0 hsp)⟩
/-- a call's facts -/
structure Cal (P : Program) (w : World) (K : PySem.W.Frag) (mg : Str → Option Value) (base : Heap) (Ps : List Addr) (k : Nat) (x : Str) (ps : List Str) (F : List D → T D) : Prop where
  ex : ∃ (f : Addr) (fd : FuncData), FnG P w K mg base k f fd ps (Qs K w Ps F) ∧ PySem.W.keepIn K (.ref f) = true ∧ Binds K fd ps [] ∧ mg x = some (.ref f)
section
variable {X : Cx} {g : G}
theorem p_c {k : Nat} {ps : List Str} {F : List D → T D} {Ps : List Addr} {x : Str} {p pos : Pos} {e : Expr} {es : List Expr} {fa : En → T (List D)} (C : Cal X.prog X.w X.K X.mg X.base Ps k x ps F) (hgu : X.A.guards = some []) (hr : Room k X.A) (hg : Gl X x)
    (hK : X.K = g.K) (hw : X.w = g.w) (hP : g.Ps = Ps)
    (ha : PA X (e :: es) (ta g fa)) (hdb : (x == ("__debug__" : Str)) = false := by decide +kernel) (he : starEach (e :: es) X.env = (false, eval e X.env) :: starEach es X.env := by rfl) (hpl : (backTo pos (starEach es X.env)).any (·.1) = false := by rfl) :
    PE X (.Call (.Name x p) (e :: es) [] pos) (te g fun en => (fa en).bind fun ds => noX (F ds)) := by
  obtain ⟨f, fd, h1, h2, h3, h4⟩ := C.ex
  exact p_call h1 hgu hr hg h4 h2 h3 hK hw hP ha hdb he hpl
/-- a name of the def -/
theorem pv {i : Nat} {x : Str} {pos : Pos} (j : Nat) (hj : j = i := by rfl) (hN : X.N[i]? = some x := by rfl) (hv : Vis X.env.scope x := by first | exact .inl rfl | exact .inr (.inl rfl) | exact .inr (.inr rfl)) (hd : (x == ("__debug__" : Str)) = false := by decide) (hcd : (x == ("__classdict__" : Str)) = false := by decide) : PE X (.Name x pos) (te g (fVar i)) := p_var hN hv hd hcd
end
/-! ### repr(got) == repr(due), of what is the same -/
mutual
def sameD : D → D → Bool
  | .none, .none => true
  | .bool a, .bool b => a == b
  | .int a, .int b => a == b
  | .str a, .str b => decide (a = b)
  | .list a, .list b => sameDs a b
  | .tuple a, .tuple b => sameDs a b
  | _, _ => false
def sameDs : List D → List D → Bool
  | [], [] => true
  | x :: xs, y :: ys => sameD x y && sameDs xs ys
  | _, _ => false
end
mutual
theorem same_eq : ∀ (a b : D), sameD a b = true → a = b
  | .none, b, h => by cases b <;> simp [sameD] at h <;> rfl
  | .bool a, b, h => by cases b <;> simp [sameD] at h; subst h; rfl
  | .int a, b, h => by cases b <;> simp [sameD] at h; subst h; rfl
  | .str a, b, h => by cases b <;> simp [sameD] at h; subst h; rfl
  | .list a, b, h => by cases b <;> simp [sameD] at h; rw [sames_eq _ _ h]
  | .tuple a, b, h => by cases b <;> simp [sameD] at h; rw [sames_eq _ _ h]
  | .dict a, b, h => by cases b <;> simp [sameD] at h
theorem sames_eq : ∀ (a b : List D), sameDs a b = true → a = b
  | [], b, h => by cases b <;> simp [sameDs] at h; rfl
  | x :: xs, b, h => by
    cases b with
    | nil => simp [sameDs] at h
    | cons y ys =>
      simp only [sameDs, Bool.and_eq_true] at h
      rw [same_eq _ _ h.1, sames_eq _ _ h.2]
end
mutual
theorem same_refl : ∀ (a : D), pl a = true → sameD a a = true
  | .none, _ => rfl
  | .bool a, _ => by simp [sameD]
  | .int a, _ => by simp [sameD]
  | .str a, _ => by simp [sameD]
  | .list a, h => by simp [sameD]; exact sames_refl _ (by simpa [pl] using h)
  | .tuple a, h => by simp [sameD]; exact sames_refl _ (by simpa [pl] using h)
  | .dict a, h => by simp [pl] at h
theorem sames_refl : ∀ (a : List D), pls a = true → sameDs a a = true
  | [], _ => rfl
  | x :: xs, h => by
    simp only [pls, Bool.and_eq_true] at h
    simp only [sameDs, Bool.and_eq_true]
    exact ⟨same_refl _ h.1, sames_refl _ h.2⟩
end
def showB (d : D) : Bool := d.showable && !d.hasDict && decide (d.depth ≤ 60) && decide (wt d ≤ 10000000)
theorem showB_of {d : D} (h : Shw d 10000000 60) : showB d = true := by simp [showB, h.s, h.h, h.e, h.w]
theorem of_showB {d : D} (h : showB d = true) : Shw d 10000000 60 := by
  simp only [showB, Bool.and_eq_true, Bool.not_eq_true', decide_eq_true_eq] at h
  exact ⟨h.1.1.1, h.1.1.2, h.1.2, h.2⟩
/-- _law_like, of what is the same -/
def dLike : List D → T D
  | [a, b] => if (pl a && sameD a b && showB a) = true then .ok (.bool true) else .bad
  | _ => .bad
/-- _law_draw -/
def dDraw : List D → T D
  | [.dict [], .int L] => drw L
  | _ => .bad
theorem dLike_same {d : D} (h : pl d = true) (s : showB d = true) : dLike [d, d] = .ok (.bool true) := by
  simp [dLike, h, s, same_refl d h]
section
variable {P : Program} {w : World} {K : PySem.W.Frag} {mg : Str → Option Value} {base : Heap} {Ps : List Addr}
theorem like_of {k : Nat} {f : Addr} {fd : FuncData} {ps : List Str} (F : FnG P w K mg base k f fd ps (fun vs H Q _ => ∃ (x y : V) (d : PyData), vs = [x, y] ∧ Dp K H x d ∧ Dp K H y d ∧ Shw d 10000000 60 ∧ Q (.bl true) H)) : FnG P w K mg base k f fd ps (Qs K w Ps dLike) := by
  refine fn_imp F fun vs H Q E h => ?_
  obtain ⟨g, ds, n, hK, _, _, _, ok, q, z⟩ := h
  unfold dLike at z
  split at z
  · rename_i a b
    split at z
    · rename_i hh
      simp only [Bool.and_eq_true] at hh
      cases q with
      | cons qa q =>
        cases q with
        | cons qb q =>
          cases q with
          | nil =>
            have e := same_eq _ _ hh.1.2
            subst e
            exact ⟨_, _, a, rfl, by rw [← hK]; exact qa.dp _ _ hh.1.1, by rw [← hK]; exact qb.dp _ _ hh.1.1, of_showB hh.2, z _ H (.refl H) ok.st (.bl _)⟩
    · exact z.elim
  · exact z.elim
theorem draw_of {k : Nat} {f : Addr} {fd : FuncData} {ps : List Str} (F : FnG P w K mg base k f fd ps (fun vs H Q _ => ∃ (d c l : Addr) (n : Nat) (b : Int), vs = [.ref d, .int b] ∧ StAt K H d c l n ∧ n ≤ 1000000 ∧ 1 ≤ b ∧ b ≤ 1000000 ∧
  ∀ (r : Int) (H' : Hp), 0 ≤ r → r < b → StAt K H' d c l (n + 1) → Ext [d, l] H H' → Q (.int r) H')) : FnG P w K mg base k f fd ps (Qs K w Ps dDraw) := by
  refine fn_imp F fun vs H Q E h => ?_
  obtain ⟨g, ds, n, hK, _, _, _, ok, q, z⟩ := h
  unfold dDraw at z
  split at z
  · rename_i L
    cases q with
    | cons qa q =>
      cases q with
      | cons qb q =>
        cases q with
        | nil =>
          cases qb
          cases qa with
          | @st d c l hst =>
            have s0 : Sta g H n := ok.st.sta
            have hs : ∀ H n, Sta g H n = StAt g.K H d c l n := fun H n => by unfold Sta; rw [hst]
            have hsv : g.sv = [d, l] := by unfold G.sv; rw [hst]
            have hs3 : g.s3 = [d, c, l] := by unfold G.s3; rw [hst]
            rw [hs] at s0
            have z : n < T.cap ∧ 1 ≤ L ∧ L ≤ 1000000 ∧ ∀ r, 0 ≤ r → r < L → Pd g H Q (.int r) (n + 1) := z
            refine ⟨d, c, l, n, L, rfl, by rw [← hK]; exact s0, by have := z.1; unfold T.cap at this; omega, z.2.1, z.2.2.1, fun r H' r0 r1 s1 x => ?_⟩
            refine z.2.2.2 r r0 r1 _ H' (by rw [hsv]; exact x) ⟨by rw [hs, hK]; exact s1, fun a ha => ?_, ok.st.ow, ok.st.one⟩ (.int r)
            obtain ⟨h1, o, h2, h3, h4⟩ := ok.st.ad a ha
            refine ⟨h1, o, x.own (by rw [← hsv]; exact G.of_s3 h1) h2 h3, h3, h4⟩
  · exact z.elim
/-- the law's own def: the first statement begins the draws -/
def QLaw (K : PySem.W.Frag) (Ps : List Addr) : Sp := fun vs H Q _ => ∃ (a : Addr) (ns : List Int), vs = [.ref a] ∧ SqL K H a (ns.map V.int) ∧ ns.length ≤ 63 ∧ (∀ P ∈ Ps, TabG H P) ∧ ∀ H', Q (.bl true) H'
theorem p_law {x qual : Str} {st : Stmt} {f c fB : Addr} {fd fdB : FuncData} {N : List Str} {ps : List Str} {k kB : Nat} {t : En → T Fl} {rest : List Stmt} {y z0 : Str} {i : Nat} {p1 p2 p3 p4 p5 : Pos} (F : FunC K x qual st f fd c) (S : FnScope N ps (defScope st)) (h1 : ps.length = 1) (hN : 1 < N.length) (hi : 0 < i)
    (hb : defBody st = .Assign [.Name y p1] (.Call (.Name "_law_begin" p2) [.Name z0 p3] [] p4) p5 :: rest)
    (FB : FnG P w K mg base kB fB fdB ["script"] (fun vs H Q _ => ∃ (a : Addr) (ns : List Int), vs = [.ref a] ∧ SqL K H a (ns.map V.int) ∧ ns.length ≤ 63 ∧ ∀ (d c l : Addr) (H' : Hp), StAt K H' d c l 0 → Ext [] H H' → Q (.ref d) H'))
    (hfirst : ∀ (A : Around) (outer : List Env) (s : Shared) (H : Hp), A.guards = some [] → Room k (A.deeper (PyProof.Rows.envOfC qual (defScope st) s.heap.objs.size f (.ref c))) →
      PS (cxOf CX0 P w K mg base N qual (defScope st) f (.ref c) A outer s H E0).nox (.Assign [.Name y p1] (.Call (.Name "_law_begin" p2) [.Name z0 p3] [] p4) p5) (tAsg (tGo (fun vs H Q _ => ∃ (a : Addr) (ns : List Int), vs = [.ref a] ∧ SqL K H a (ns.map V.int) ∧ ns.length ≤ 63 ∧ ∀ (d c l : Addr) (H' : Hp), StAt K H' d c l 0 → Ext [] H H' → Q (.ref d) H') (tCons (tVar 0) tNil)) (gName i)))
    (hbody : ∀ (A : Around) (outer : List Env) (s : Shared) (H : Hp) (g : G), A.guards = some [] → Room k (A.deeper (PyProof.Rows.envOfC qual (defScope st) s.heap.objs.size f (.ref c))) → g.K = K → g.w = w → g.Ps = Ps → g.ow = [] →
      PSs (cxOf CX0 P w K mg base N qual (defScope st) f (.ref c) A outer s H E0).nox rest (ts g t))
    (hwp : (t ((List.replicate N.length none).set i (some (.dict [])))).wp 0 (fun fl _ => fl = .rt (.bool true)) fun _ _ => False) : FnG P w K mg base (k + 1) f fd ps (QLaw K Ps) := by
  refine F.ok S (fun vs H Q E h => ?_) (fun A outer s H vs Q hg hr h => ?_)
  · obtain ⟨a, ns, rfl, _⟩ := h
    rw [h1]; rfl
  · obtain ⟨a, ns, rfl, hS, h63, hT, q⟩ := h
    have hrest : PSs (cxOf CX0 P w K mg base N qual (defScope st) f (.ref c) A outer s H E0).nox rest (fun Z σ H' => ∃ g : G, g.K = K ∧ g.w = w ∧ g.Ps = Ps ∧ g.ow = [] ∧ ts g t Z σ H') :=
      ⟨fun pins s' σ H' Z I ⟨g, a1, a2, a3, a4, h⟩ => (hbody A outer s H g hg hr a1 a2 a3 a4).run pins s' σ H' Z I h⟩
    refine ⟨_, by rw [hb]; exact pss_cons (hfirst A outer s H hg hr) hrest, ?_⟩
    obtain ⟨m, hm⟩ : ∃ m, N.length = m + 1 := ⟨N.length - 1, by omega⟩
    refine ⟨.ref a, by unfold L2.start; simp, a, ns, rfl, hS, h63, fun d cc l H' s1 x1 => ?_⟩
    let g : G := { K := K, w := w, Ps := Ps, st := some (d, cc, l), ad := [], ow := [], xe := fun _ _ _ => False, xr := fun _ _ _ _ => True }
    have st1 : Stt g H' 0 := ⟨s1, (fun p (hp : p ∈ []) => nomatch hp), (fun p (hp : p ∈ []) => nomatch hp), (fun p (hp : p ∈ []) => nomatch hp)⟩
    refine ⟨g, rfl, rfl, rfl, rfl, _, 0, ⟨⟨st1, fun P hP => x1.2 P (hT P hP)⟩, ?_, fun j u hj => ?_⟩, T.wp_mono hwp (fun fl m e => ?_) fun _ _ z => z.elim⟩
    · simp [L2.start]; omega
    · by_cases hij : i = j
      · subst hij
        by_cases hl : i < N.length
        · have hl' : i < (List.replicate N.length (none : Option D)).length := by simpa using hl
          rw [List.getElem?_set_self hl'] at hj
          cases hj
          refine ⟨.ref d, ?_, .val (.st rfl)⟩
          rw [List.getElem?_set_self (by simp [L2.start]; omega)]
        · rw [List.getElem?_eq_none (by simpa using hl)] at hj
          cases hj
      · rw [List.getElem?_set_ne hij, List.getElem?_replicate] at hj
        split at hj <;> cases hj
    · subst e
      intro v H2 x2 s2 qd
      cases qd
      exact q H2
end
end PL
set_option Elab.async false
set_option linter.all false
set_option maxRecDepth 100000
set_option maxHeartbeats 4000000
namespace PL
open PySem L2 G9 GxR
structure Blt (mg : Str → Option Value) : Prop where
  int : mg "int" = none
  list : mg "list" = none
  len : mg "len" = none
  range : mg "range" = none
  tuple : mg "tuple" = none
  sorted : mg "sorted" = none
  set : mg "set" = none
  repr : mg "repr" = none
  type : mg "type" = none
  any : mg "any" = none
  all : mg "all" = none
  enumerate : mg "enumerate" = none
  reversed : mg "reversed" = none
  zip : mg "zip" = none
  sum : mg "sum" = none
  isinstance : mg "isinstance" = none
  min : mg "min" = none
  max : mg "max" = none
  str : mg "str" = none
  dict : mg "dict" = none
  abs : mg "abs" = none
  bool : mg "bool" = none
theorem gu {A : Around} {env : Env} (h : A.guards = some []) : (A.deeper env).guards = some [] := (guards_deeper A env).trans h
theorem ixN_nat {n j : Nat} (h : j < n) : ixN n (j : Int) = some j := by
  unfold ixN
  rw [if_pos (by omega), if_pos (by omega)]
  rfl
def spMixed : Sp := fun vs H Q _ => ∃ c k : Int, vs = [.int c, .int k] ∧ 0 ≤ k ∧ k < 2 ^ 40 ∧ ∀ r : Int, 0 ≤ r → r < 2147483647 → Q (.int r) H
abbrev kCells : Key := Sum.inr "cells"
abbrev kLefts : Key := Sum.inr "lefts"
abbrev kAt : Key := Sum.inr "at"
theorem kne1 : ¬ (kCells = kAt) := by decide +kernel
theorem kne2 : ¬ (kLefts = kAt) := by decide +kernel
theorem kne3 : ¬ (kCells = kLefts) := by decide +kernel
theorem st_cells (c l : Addr) (n : Int) : valV (stD c l n) kCells = some (.ref c) := by
  unfold valV stD
  rw [List.find?_cons_of_pos (by simp)]
  rfl
theorem st_lefts (c l : Addr) (n : Int) : valV (stD c l n) kLefts = some (.ref l) := by
  unfold valV stD
  rw [List.find?_cons_of_neg (by rw [decide_eq_false kne3]; simp), List.find?_cons_of_pos (by simp)]
  rfl
theorem st_at (c l : Addr) (n : Int) : valV (stD c l n) kAt = some (.int n) := by
  unfold valV stD
  rw [List.find?_cons_of_neg (by rw [decide_eq_false kne1]; simp), List.find?_cons_of_neg (by rw [decide_eq_false kne2]; simp), List.find?_cons_of_pos (by simp)]
  rfl
theorem st_put (c l : Addr) (n m : Int) : putK (stD c l n) kAt (.int m) = stD c l m := by
  unfold putK stD
  have e : ([(kCells, V.ref c), (kLefts, .ref l), (kAt, .int n)].any fun kv => decide (kv.1 = kAt)) = true := by
    simp only [List.any_cons, List.any_nil]
    rw [decide_eq_false kne1, decide_eq_false kne2]
    simp
  rw [if_pos e]
  simp only [List.map_cons, List.map_nil]
  rw [if_neg kne1, if_neg kne2, if_pos trivial]
theorem StAt.not {K H d c l n} (S : StAt K H d c l n) {p : Addr} (h : H p = none) : p ≠ d ∧ p ≠ c ∧ p ≠ l := by
  obtain ⟨⟨cs, ls, i, h1, h2, h3, r⟩, a, b⟩ := S
  exact ⟨fun z => (by rw [z, h1] at h; cases h), fun z => (by rw [z, h2] at h; cases h), fun z => (by rw [z, h3] at h; cases h)⟩
theorem StAt.at {K H d c l n} (S : StAt K H d c l n) {p : Addr} {o : HO} (h : p ≠ d ∧ p ≠ c ∧ p ≠ l) : StAt K (upd H p o) d c l n := by
  obtain ⟨⟨cs, ls, i, h1, h2, h3, r⟩, a, b⟩ := S
  exact ⟨⟨cs, ls, i, by rw [upd_ne h.1.symm]; exact h1, by rw [upd_ne h.2.1.symm]; exact h2, by rw [upd_ne h.2.2.symm]; exact h3, r⟩, a, b⟩
theorem Fre.of {H : Hp} {p : Addr} (h : H p = none) : Fre H p := by
  refine ⟨fun o e => ?_, fun t => ?_⟩
  · rw [h] at e
    cases e
  · obtain ⟨ps, e, _⟩ := t
    rw [h] at e
    cases e
theorem _root_.G9.Ext.fre {S : List Addr} {H H1 : Hp} (x : Ext S H H1) {p : Addr} (hp : p ∉ S) (h : Fre H1 p) : Fre H p := ⟨fun o e n => h.1 o (x.1 p o e (.inl hp) n) n, fun t => h.2 (x.2 p t)⟩
theorem _root_.G9.Ext.at {S : List Addr} {H H1 : Hp} (x : Ext S H H1) {p : Addr} {o : HO} (h : Fre H p) : Ext S H (upd H1 p o) := by
  refine ⟨fun b u e n m => ?_, fun P t => ?_⟩
  · have hb : b ≠ p := fun z => by
      rw [z] at e
      exact h.1 u e m
    rw [upd_ne hb]
    exact x.1 b u e n m
  · have hb : P ≠ p := fun z => by
      rw [z] at t
      exact h.2 t
    obtain ⟨ps, e, r⟩ := x.2 P t
    exact ⟨ps, by rw [upd_ne hb]; exact e, r⟩
theorem not2 {d c l p : Addr} (h : p ≠ d ∧ p ≠ c ∧ p ≠ l) : p ∉ [d, l] := by simp [h.1, h.2.2]
def spDraw (K : PySem.W.Frag) : Sp := fun vs H Q _ => ∃ (d c l : Addr) (n : Nat) (b : Int), vs = [.ref d, .int b] ∧ StAt K H d c l n ∧ n ≤ 1000000 ∧ 1 ≤ b ∧ b ≤ 1000000 ∧
  ∀ (r : Int) (H' : Hp), 0 ≤ r → r < b → StAt K H' d c l (n + 1) → Ext [d, l] H H' → Q (.int r) H'
def big (z : Int) : Int := if z ≥ 10 ^ 18 then z else 0
theorem big1 {z : Int} (h : z ≥ 10 ^ 18) : big z = z := if_pos h
theorem big0 {z : Int} (h : ¬ z ≥ 10 ^ 18) : big z = 0 := if_neg h
def spBegin (K : PySem.W.Frag) : Sp := fun vs H Q _ => ∃ (a : Addr) (ns : List Int), vs = [.ref a] ∧ SqL K H a (ns.map V.int) ∧ ns.length ≤ 63 ∧
  ∀ (d c l : Addr) (H' : Hp), StAt K H' d c l 0 → Ext [] H H' → Q (.ref d) H'
theorem _root_.G9.Ext.then {S : List Addr} {H H1 H2 : Hp} (x : Ext S H H1) (k : ∀ b o, H1 b = some o → H2 b = some o) : Ext S H H2 := x.trans ⟨fun b o e _ _ => k b o e, fun P ⟨ps, e, r⟩ => ⟨ps, k _ _ e, r⟩⟩
theorem dp_ints (K : PySem.W.Frag) (H : Hp) : ∀ ns : List Int, DpAll K H (ns.map V.int) (ns.map .int)
  | [] => .nil
  | n :: ns => .cons (.int n) (dp_ints K H ns)
theorem shaped_ints (ns : List Int) : SeqAt.shaped (.list (ns.map .int)) = true := by
  have h1 : ∀ l : List Int, PyData.canLayAll0 (l.map .int) = true := by
    intro l
    induction l with
    | nil => rfl
    | cons n l ih => simp only [List.map_cons, PyData.canLayAll0, ih, PyData.canLay0, Bool.and_self]
  have h2 : PyData.depthAll (ns.map .int) = 0 := PySem.W.depth_ints ns
  unfold SeqAt.shaped
  simp only [PyData.canLay0, PyData.depth, h1, h2]
  decide
def spLike (K : PySem.W.Frag) : Sp := fun vs H Q _ => ∃ (x y : V) (d : PyData), vs = [x, y] ∧ Dp K H x d ∧ Dp K H y d ∧ Shw d 10000000 60 ∧ Q (.bl true) H
end PL
set_option Elab.async false
set_option linter.all false
set_option maxRecDepth 100000
set_option maxHeartbeats 4000000
namespace PL
open PySem L2 G9 GxR
def fCall (F : List D → T D) (fa : En → T (List D)) : En → T D := fun en => (fa en).bind fun ds => noX (F ds)
def sBad : En → T Fl := fun _ => .bad
def fnD (N : List Str) (k : Nat) (t : En → T Fl) (ds : List D) : T D := if ds.length = k then runD N t ds else .bad
def fTupRg (f : En → T D) : En → T D := fun e => (f e).bind fun d => (dRg1 [d]).bind fun ds => .ok (.tuple ds)
def fLstRg (f : En → T D) : En → T D := fun e => (f e).bind fun d => (dRg1 [d]).bind fun ds => .ok (.list ds)
def fLenSet (f : En → T D) : En → T D := fun e => (f e).bind fun d => (asIs d).bind fun ns => .ok (.int ((sortU ns).length : Nat))
def fSortSet (f : En → T D) : En → T D := fun e => (f e).bind fun d => (asIs d).bind fun ns => if (sortU ns).length < 64 then .ok (.list ((sortU ns).map .int)) else .bad
def nLst (k : En → T (List D)) : En → T (List D) := fun e => (k e).bind fun ds => if ds.length ≤ sizeLine then .ok ds else .bad
def nLc (fi : En → T (List D)) (gt : D → En → T En) (c : En → T Bool) (f : En → T D) (vs : List Nat) : En → T (List D) := fun e => (fi e).bind fun ds => lcL gt c f (wipeE e vs) ds
/-- a module's int -/
structure Cint (mg : Str → Option Value) (x : Str) (i : Int) : Prop where
  ex : ∃ tk, mg x = some (.int i tk)
theorem p_gi {X : Cx} {g : G} {x : Str} {i : Int} {pos : Pos} (h : Cint X.mg x i) (hg : Gl X x) (hd : (x == ("__debug__" : Str)) = false := by decide +kernel) : PE X (.Name x pos) (te g (fC (.int i))) := by
  obtain ⟨tk, e⟩ := h.ex
  exact p_gint hg e ⟨tk, rfl⟩ hd
/-- a generator's scope, looked at -/
def genNB (sc scope : Scope) (xs : List Str) : Bool :=
  decide (scope.kind = .function) && decide (scope.isCoroutine = false) && scope.names.all (fun y => decide (y.2 ≠ .cell)) && decide (scope.names.lookup (".0" : Str) = some NameKind.local) && xs.all (fun x => decide (scope.names.lookup x = some .local)) && scope.names.all (fun y => decide (y.2 ≠ .free) || decide (sc.names.lookup y.1 = some .cell))
theorem gn_by {sc scope : Scope} {xs : List Str} (h : genNB sc scope xs = true) : GenN sc scope xs := by
  simp only [genNB, Bool.and_eq_true, List.all_eq_true, decide_eq_true_eq, Bool.or_eq_true] at h
  obtain ⟨⟨⟨⟨⟨h1, h2⟩, h3⟩, h4⟩, h5⟩, h6⟩ := h
  exact ⟨h1, h2, h3, h4, h5, fun y hy e => (h6 y hy).resolve_left (fun z => z e)⟩
section
variable {P : Program} {w : World} {K : PySem.W.Frag} {mg : Str → Option Value} {base : Heap} {Ps : List Addr}
theorem fn_ok {x qual : Str} {st : Stmt} {f c : Addr} {fd : FuncData} {N ps : List Str} {k n : Nat} {t : En → T Fl} (F : FunC K x qual st f fd c) (S : FnScope N ps (defScope st)) (hN : ps.length ≤ N.length) (hn : ps.length = n)
    (hbody : ∀ (A : Around) (outer : List Env) (s : Shared) (H : Hp) (g : G), A.guards = some [] → Room k (A.deeper (PyProof.Rows.envOfC qual (defScope st) s.heap.objs.size f (.ref c))) → g.K = K → g.w = w → g.Ps = Ps → g.ow = [] →
      PSs (cxOf CX0 P w K mg base N qual (defScope st) f (.ref c) A outer s H E0).nox (defBody st) (ts g t)) : FnG P w K mg base (k + 1) f fd ps (Qs K w Ps (fnD N n t)) :=
  p_fn F S hN (t := t) (fun ds h => by unfold fnD; rw [if_pos (by omega)]) (fun ds h => by unfold fnD; rw [if_neg (by omega)]) hbody
/-- nothing is said of it -/
theorem fn_none {x qual : Str} {st : Stmt} {f c : Addr} {fd : FuncData} {N ps : List Str} {k : Nat} (F : FunC K x qual st f fd c) : FnG P w K mg base k f fd ps (Qs K w Ps fun _ => .bad) :=
  ⟨fun vs H Q E h => by obtain ⟨g, ds, n, _, _, _, _, _, _, z⟩ := h; exact z.elim, fun A outer s H args us vs Q hg hr e0 hb r h => by obtain ⟨g, ds, n, _, _, _, _, _, _, z⟩ := h; exact z.elim⟩
end
end PL
set_option Elab.async false
set_option linter.all false
set_option maxRecDepth 100000
set_option maxHeartbeats 4000000
namespace PL
open PySem L2 G9 GxR
section
variable {X : Cx} {g : G}
theorem isT_core {t : String} {neg : Bool} {f : En → T D} {σ : L2.St} {H : Hp} {Q : VK} (hK : X.K = g.K) {r : R2} (hr : ∀ a b H Q, Q (.bl (if neg then !decide (a = b) else decide (a = b))) H → r (.ty a) (.ty b) H Q) (h : te g (f1 (oIsT t neg) f) σ H Q) : tOp r (tCB (rTyp X.K) (tCons (te g f) tNil)) (tC (.ty t)) σ H Q := by
  obtain ⟨e, n, rp, h⟩ := h
  refine te_step rp h fun d m v H1 x1 r1 q1 h1 => ?_
  unfold oIsT at h1
  cases ht : tyD d with
  | none => rw [ht] at h1; exact bad_elim h1
  | some u =>
    rw [ht] at h1
    exact ⟨v, u, rfl, by rw [hK]; exact tyB_of q1 ht, hr u t H1 Q (h1 _ H1 x1 r1.ok.st (.bl _))⟩
theorem p_tisT0 {a : Expr} {f : En → T D} {t : String} {p p2 p3 pos : Pos} {x : Str} (hK : X.K = g.K) (hg : Gl X "type") (hm : X.mg "type" = none) (hgx : Gl X x) (hmx : X.mg x = none) (hv : bootBuiltins x = some (.type t)) (ha : PE X a (te g f))
    (hn : x ≠ "__name__" := by decide) (hd : (x == ("__debug__" : Str)) = false := by decide) (he : starEach [a] X.env = (false, eval a X.env) :: starEach [] X.env := by rfl) : PT X (.Compare (.Call (.Name "type" p) [a] [] p2) [.Is] [.Name x p3] pos) (tt g (fB (f1 (oIsT t false) f))) :=
  (pt_cmpR op_isTyB (pe_callTy call_type1 hg hm PyProof.Rows.boot_type (pa_cons ha pa_nil he) (he := he)) (pe_bltn (v := .ty t) hgx hmx hv rfl hn hd) (nomark _)).imp fun σ H Q h => isT_core (neg := false) hK (fun a b H Q q => ⟨a, b, rfl, rfl, q⟩) (te_asB h)
theorem p_tisT1 {a : Expr} {f : En → T D} {t : String} {p p2 p3 pos : Pos} {x : Str} (hK : X.K = g.K) (hg : Gl X "type") (hm : X.mg "type" = none) (hgx : Gl X x) (hmx : X.mg x = none) (hv : bootBuiltins x = some (.type t)) (ha : PE X a (te g f))
    (hn : x ≠ "__name__" := by decide) (hd : (x == ("__debug__" : Str)) = false := by decide) (he : starEach [a] X.env = (false, eval a X.env) :: starEach [] X.env := by rfl) : PT X (.Compare (.Call (.Name "type" p) [a] [] p2) [.IsNot] [.Name x p3] pos) (tt g (fB (f1 (oIsT t true) f))) :=
  (pt_cmpR op_notTyB (pe_callTy call_type1 hg hm PyProof.Rows.boot_type (pa_cons ha pa_nil he) (he := he)) (pe_bltn (v := .ty t) hgx hmx hv rfl hn hd) (nomark _)).imp fun σ H Q h => isT_core (neg := true) hK (fun a b H Q q => ⟨a, b, rfl, rfl, q⟩) (te_asB h)
/-! ### sorted(ints) -/
def insI (x : Int) : List Int → List Int
  | [] => [x]
  | y :: ys => if x ≤ y then x :: y :: ys else y :: insI x ys
def sortI (ns : List Int) : List Int := ns.foldr insI []
theorem insI_perm (x : Int) : ∀ ys : List Int, (insI x ys).Perm (x :: ys)
  | [] => .refl _
  | y :: ys => by
    unfold insI
    split
    · exact .refl _
    · exact ((insI_perm x ys).cons y).trans (.swap x y ys)
theorem insI_asc (x : Int) : ∀ {ys : List Int}, ys.Pairwise (· ≤ ·) → (insI x ys).Pairwise (· ≤ ·)
  | [], _ => by simp [insI]
  | y :: ys, h => by
    unfold insI
    rw [List.pairwise_cons] at h
    split
    · rename_i hx
      refine List.pairwise_cons.mpr ⟨fun z hz => ?_, List.pairwise_cons.mpr h⟩
      rcases List.mem_cons.mp hz with rfl | hz
      · exact hx
      · have := h.1 z hz; omega
    · refine List.pairwise_cons.mpr ⟨fun z hz => ?_, insI_asc x h.2⟩
      rcases List.mem_cons.mp ((insI_perm x ys).mem_iff.mp hz) with rfl | hz
      · omega
      · exact h.1 z hz
theorem sortI_perm : ∀ ns : List Int, (sortI ns).Perm ns
  | [] => .refl _
  | n :: ns => (insI_perm n (sortI ns)).trans ((sortI_perm ns).cons n)
theorem sortI_asc : ∀ ns : List Int, (sortI ns).Pairwise (· ≤ ·)
  | [] => by simp [sortI]
  | n :: ns => insI_asc n (sortI_asc ns)
theorem perm_asc : ∀ {xs ys : List Int}, xs.Perm ys → xs.Pairwise (· ≤ ·) → ys.Pairwise (· ≤ ·) → xs = ys
  | [], ys, p, _, _ => by rw [p.nil_eq]
  | x :: xs, ys, p, hx, hy => by
    cases ys with
    | nil => exact absurd p.length_eq (by simp)
    | cons y ys =>
      rw [List.pairwise_cons] at hx hy
      have e : x = y := by
        have h1 : x ∈ y :: ys := p.mem_iff.mp List.mem_cons_self
        have h2 : y ∈ x :: xs := p.mem_iff.mpr List.mem_cons_self
        rcases List.mem_cons.mp h1 with h1 | h1
        · exact h1
        · rcases List.mem_cons.mp h2 with h2 | h2
          · exact h2.symm
          · have a := hy.1 x h1; have b := hx.1 y h2; omega
      subst e
      rw [perm_asc (List.Perm.cons_inv p) hx.2 hy.2]
def oSorted : D → T D
  | .tuple ds => match intsOf ds with
    | some ns => if ns.length < 64 then .ok (.list ((sortI ns).map .int)) else .bad
    | none => .bad
  | .list ds => match intsOf ds with
    | some ns => if ns.length < 64 then .ok (.list ((sortI ns).map .int)) else .bad
    | none => .bad
  | _ => .bad
theorem p_sorted {a : Expr} {f : En → T D} {p pos : Pos} (hc : X.calm = true) (hK : X.K = g.K) (hg : Gl X "sorted") (hm : X.mg "sorted" = none) (ha : PE X a (te g f)) (he : starEach [a] X.env = (false, eval a X.env) :: starEach [] X.env := by rfl) : PE X (.Call (.Name "sorted" p) [a] [] pos) (te g (f1 oSorted f)) :=
  (pe_callB ((call_sortedTi hc).or cr_sorted) hg hm PyProof.Rows.boot_sorted (pa_cons ha pa_nil he) (he := he)).imp fun σ H Q ⟨e, n, rp, h⟩ => te_step rp h fun d m v H1 x1 r1 q1 h1 => by
    have fin : ∀ (ns : List Int), (if ns.length < 64 then (T.ok (.list ((sortI ns).map .int)) : T D) else .bad).wp m (Pd g H Q) (Px g H) → ns.length < 64 ∧ ∀ (ns' : List Int) (p : Addr), ns'.Perm ns → ns'.Pairwise (· ≤ ·) → H1 p = none → Q (.ref p) (upd H1 p (.lst (ns'.map V.int))) := fun ns z => by
      split at z
      · rename_i hl
        refine ⟨hl, fun ns' p hp ha hn => ?_⟩
        rw [perm_asc (hp.trans (sortI_perm ns).symm) ha (sortI_asc ns)]
        exact z _ _ (x1.trans (.new hn)) (r1.ok.st.ext (.new hn)) (.lst (r1.ok.st.fresh hn) upd_same (by rw [List.length_map, (sortI_perm ns).length_eq, sizeLine_eq]; omega) (Dqs.mk_ints _))
      · exact bad_elim z
    cases q1 with
    | tup a l q =>
      simp only [oSorted] at h1
      cases e1 : intsOf _ with
      | none => rw [e1] at h1; exact bad_elim h1
      | some ns =>
        rw [e1] at h1
        have e2 := of_intsOf e1
        subst e2
        obtain ⟨f1, f2⟩ := fin ns h1
        exact .inl ⟨_, ns, rfl, by rw [hK, ← q.ints]; exact a, f1, f2⟩
    | lst nv a l q =>
      simp only [oSorted] at h1
      cases e1 : intsOf _ with
      | none => rw [e1] at h1; exact bad_elim h1
      | some ns =>
        rw [e1] at h1
        have e2 := of_intsOf e1
        subst e2
        obtain ⟨f1, f2⟩ := fin ns h1
        exact .inr ⟨_, ns, rfl, by rw [← q.ints]; exact .of a, f1, f2⟩
    | _ => exact bad_elim h1
/-! ### zip -/
def zpD (xs ys : List D) : List D := (xs.zip ys).map fun p => .tuple [p.1, p.2]
theorem zpD_len (xs ys : List D) : (zpD xs ys).length = min xs.length ys.length := by simp [zpD]
theorem zpD_get {xs ys : List D} {i : Nat} {d : D} (h : (zpD xs ys)[i]? = some d) : ∃ a b, xs[i]? = some a ∧ ys[i]? = some b ∧ d = .tuple [a, b] := by
  simp only [zpD, List.getElem?_map, Option.map_eq_some_iff] at h
  obtain ⟨p, h1, h2⟩ := h
  rw [List.getElem?_zip_eq_some] at h1
  exact ⟨p.1, p.2, h1.1, h1.2, h2.symm⟩
theorem Wk.zpT {H : Hp} {a b : Addr} {xs ys : List V} {ds es : List D} (h : SqT g.K H a xs) (k : SqT g.K H b ys) (hl : ds.length ≤ sizeLine) (q : Dqs g H xs ds) (q' : Dqs g H ys es) : Wk g (RZ.ItzT g.K a b) (zpD ds es) H := by
  refine ⟨by rw [zpD_len]; omega, fun i H' hi x => ?_, fun H' x => ⟨xs, ys, x.tup h, x.tup k, by rw [zpD_len, q.len, q'.len]; omega⟩, fun i H' v H'' d x hd y => ?_⟩
  · rw [zpD_len, ← q.len, ← q'.len] at hi
    exact ⟨xs, ys, xs[i]'(by omega), ys[i]'(by omega), x.tup h, x.tup k, by simp, by simp⟩
  · obtain ⟨t, u, w, rfl, ht, rfl, h1, h2⟩ := y
    obtain ⟨a', b', e1, e2, rfl⟩ := zpD_get hd
    obtain ⟨w1, f1, g1⟩ := q.get e1
    obtain ⟨w2, f2, g2⟩ := q'.get e2
    have k1 := h1 xs (x.tup h)
    have k2 := h2 ys (x.tup k)
    rw [f1] at k1
    rw [f2] at k2
    cases k1
    cases k2
    exact ⟨.new ht, new_pair ht (Dq.extv x _ _ g1) (Dq.extv x _ _ g2)⟩
theorem Wk.zpL {H : Hp} {a b : Addr} {xs ys : List V} {ds es : List D} (va : a ∉ g.vol) (vb : b ∉ g.vol) (h : H a = some (.lst xs)) (k : H b = some (.lst ys)) (hl : ds.length ≤ sizeLine) (q : Dqs g H xs ds) (q' : Dqs g H ys es) : Wk g (Itz g.K a b) (zpD ds es) H := by
  have ha : ∀ H', Ext g.vol H H' → SqL g.K H' a xs := fun H' x => .of (x.own va h (fun _ z => by cases z))
  have hb : ∀ H', Ext g.vol H H' → SqL g.K H' b ys := fun H' x => .of (x.own vb k (fun _ z => by cases z))
  refine ⟨by rw [zpD_len]; omega, fun i H' hi x => ?_, fun H' x => ⟨xs, ys, ha H' x, hb H' x, by rw [zpD_len, q.len, q'.len]; omega⟩, fun i H' v H'' d x hd y => ?_⟩
  · rw [zpD_len, ← q.len, ← q'.len] at hi
    exact ⟨xs, ys, xs[i]'(by omega), ys[i]'(by omega), ha H' x, hb H' x, by simp, by simp⟩
  · obtain ⟨t, u, w, rfl, ht, rfl, h1, h2⟩ := y
    obtain ⟨a', b', e1, e2, rfl⟩ := zpD_get hd
    obtain ⟨w1, f1, g1⟩ := q.get e1
    obtain ⟨w2, f2, g2⟩ := q'.get e2
    have k1 := h1 xs (ha H' x)
    have k2 := h2 ys (hb H' x)
    rw [f1] at k1
    rw [f2] at k2
    cases k1
    cases k2
    exact ⟨.new ht, new_pair ht (Dq.extv x _ _ g1) (Dq.extv x _ _ g2)⟩
def dZip : List D → T (List D)
  | [.tuple xs, .tuple ys] => .ok (zpD xs ys)
  | [.list xs, .list ys] => .ok (zpD xs ys)
  | _ => .bad
theorem p_izip {a b : Expr} {k : En → T (List D)} {p pos tpos : Pos} {elts : List Expr} {kk : Nat} (hK : X.K = g.K) (hg : Gl X "zip") (hm : X.mg "zip" = none) (ha : PA X [a, b] (ta g k)) (hs : starEach [a, b] X.env = (false, eval a X.env) :: starEach [b] X.env := by rfl) (hpl : (backTo pos (starEach [b] X.env)).any (·.1) = false := by rfl) :
    PI X (.Tuple elts kk tpos) (.Call (.Name "zip" p) [a, b] [] pos) (ti g (iRg dZip k)) :=
  (RZ.pi_zipA hg hm ha hs hpl).imp fun σ H R ⟨e, n, rp, h⟩ => ta_step rp h fun ds m vs H1 x1 r1 q1 h1 => by
    cases q1 with
    | nil => exact bad_elim h1
    | cons qa q1 =>
      cases q1 with
      | nil => cases qa <;> exact bad_elim h1
      | cons qb q1 =>
        cases q1 with
        | cons _ _ => cases qa <;> first | exact bad_elim h1 | (cases qb <;> exact bad_elim h1)
        | nil =>
          cases qa with
          | tup a l q =>
            cases qb with
            | tup a' l' q' => exact ⟨_, _, _, _, rfl, .inr ⟨by rw [hK]; exact a, by rw [hK]; exact a', h1 H1 _ x1 r1.ok.st ⟨by rw [hK]; exact Wk.zpT a a' l q q', fun b hb => by rw [hK]; exact Wk.zpT (g := g.add b) a a' l (Dqs.add hb _ _ q) (Dqs.add hb _ _ q')⟩⟩⟩
            | _ => exact bad_elim h1
          | lst va a l q =>
            cases qb with
            | lst vb a' l' q' => exact ⟨_, _, _, _, rfl, .inl ⟨.of a, .of a', h1 H1 _ x1 r1.ok.st ⟨by rw [hK]; exact Wk.zpL va vb a a' l q q', fun b hb => by rw [hK]; exact Wk.zpL (g := g.add b) (G.vol_add.mpr ⟨va, fun z => by rw [z, hb] at a; cases a⟩) (G.vol_add.mpr ⟨vb, fun z => by rw [z, hb] at a'; cases a'⟩) a a' l (Dqs.add hb _ _ q) (Dqs.add hb _ _ q')⟩⟩⟩
            | _ => exact bad_elim h1
          | _ => cases qb <;> exact bad_elim h1
end
end PL
set_option Elab.async false
set_option linter.all false
set_option maxRecDepth 100000
set_option maxHeartbeats 4000000
namespace PL
open PySem L2 G9 GxR RT PyProof.Rows PySem.W
/-- a def of the text stands behind the top -/
def DefAt (K : PySem.W.Frag) (x : Str) (st : Stmt) : Prop := ∃ (f : Addr) (fd : FuncData) (c : Addr), PySem.W.nsIn K mainGlobals x = some (some (.ref f)) ∧ FunC K x x st f fd c
theorem def_mk {K : PySem.W.Frag} {x : Str} {st : Stmt} {f c : Addr} {oc : Value} {od an : Option Addr} {osl : Array (Option Value)} {kV doc pm ct : Value} (a : PySem.W.nsIn K mainGlobals x = some (some (.ref f)))
    (l : K.lookup f = some ⟨oc, od, .func (PySem.W.fnOf x x (defArgs st) (defBody st) (defScope st) .none kV doc pm an (.ref c) ct), osl⟩) (cd : PySem.W.codeIn K (.ref c) x = true) (k : PySem.W.keepIn K (.ref f) = true) : DefAt K x st :=
  ⟨f, _, c, a, ⟨oc, od, kV, doc, pm, an, ct, osl, rfl, l, cd⟩, k⟩
/-- a def with blocks of its own: its table -/
def TabK (K : PySem.W.Frag) (x : Str) : Prop := ∃ c P, tabIn K x = some (c, P) ∧ K.lookup P = none
def tabB (K : PySem.W.Frag) (x : Str) : Bool := match tabIn K x with
  | some (_, P) => (K.lookup P).isNone
  | none => false
theorem tab_mk {K : PySem.W.Frag} {x : Str} (h : tabB K x = true) : TabK K x := by
  unfold tabB at h
  split at h
  · rename_i c P e
    exact ⟨c, P, e, Option.isNone_iff_eq_none.mp h⟩
  · cases h
theorem def_tab {K : PySem.W.Frag} {x : Str} {st : Stmt} {f c c' P : Addr} {fd : FuncData} {h : Heap} {mg : Str → Option Value} (X : K.In h) (G : h.Ns mainGlobals mg) (F : FunC K x x st f fd c) (hm : mg x = some (.ref f)) (ht : tabIn K x = some (c', P)) : c = c' := by
  obtain ⟨oc, od, kV, doc, pm, an, ct, osl, rfl, lk, hcd⟩ := F.ex
  have := law_code X G ht hm (X _ _ lk) rfl
  have e : Value.ref c = .ref c' := this
  cases e
  rfl
def NoneAt (K : PySem.W.Frag) (x : Str) : Prop := PySem.W.nsIn K mainGlobals x = some none

end PL
set_option Elab.async false
set_option linter.all false
set_option maxRecDepth 100000
set_option maxHeartbeats 8000000
namespace PG
open PySem PL
/-! ### is_tuple_of -/
abbrev n_is_tuple_of : List Str := ["value", "many"]
def t_is_tuple_of : En → T Fl := (sRet (fAnd (f1 (oIsT "tuple" false) (fVar 0)) (f2 oEq (f1 oLen (fVar 0)) (fVar 1))))
def d_is_tuple_of : List D → T D := fnD n_is_tuple_of 2 t_is_tuple_of
/-! ### is_integer -/
abbrev n_is_integer : List Str := ["value", "least", "most"]
def t_is_integer : En → T Fl := (sRet (fAnd (f1 (oIsT "int" false) (fVar 0)) (oCh oLe oLe (fVar 1) (fVar 0) (fVar 2))))
def d_is_integer : List D → T D := fnD n_is_integer 3 t_is_integer
/-! ### is_lot -/
abbrev n_is_lot : List Str := ["count", "value", "least", "thing"]
def t_is_lot : En → T Fl := (sSq (sIf (fB (f1 (oIsT "tuple" true) (fVar 1))) (sRet (fC (.bool false))) sNx)
  (sSq (sSet 2 (fC (.int 0)))
  (sSq (sFor (iSeq (fVar 1)) (gN 3) (sSq (sIf (bNot (fTru (fCall d_is_integer (aCons (fVar 3) (aCons (fVar 2) (aCons (f2 oSub (fVar 0) (fC (.int 1))) aNil)))))) (sRet (fC (.bool false))) sNx)
  (sSet 2 (f2 oAdd (fVar 3) (fC (.int 1))))))
  (sRet (fC (.bool true))))))
def d_is_lot : List D → T D := fnD n_is_lot 2 t_is_lot
/-! ### parents_in -/
abbrev n_parents_in : List Str := ["arrows", "lot", "thing"]
def t_parents_in : En → T Fl := (sRet (fG2 mkT (iPrs (fVar 0)) (gAnd (gEq (gLoc 1) (gFree 2)) (gIn false (gLoc 0) (gFree 1))) (gLoc 0)))
def d_parents_in : List D → T D := fnD n_parents_in 3 t_parents_in
/-! ### children_in -/
abbrev n_children_in : List Str := ["arrows", "lot", "thing"]
def t_children_in : En → T Fl := (sRet (fG2 mkT (iPrs (fVar 0)) (gAnd (gEq (gLoc 0) (gFree 2)) (gIn false (gLoc 1) (gFree 1))) (gLoc 1)))
def d_children_in : List D → T D := fnD n_children_in 3 t_children_in
/-! ### causes_with -/
abbrev n_causes_with : List Str := ["causes", "thing"]
def t_causes_with : En → T Fl := (sRet (fG2 mkT (iEnG (aCons (fVar 0) aNil)) (gIn false (gFree 1) (gLoc 1)) (gLoc 0)))
def d_causes_with : List D → T D := fnD n_causes_with 2 t_causes_with
/-! ### _need_arrows -/
abbrev n_uneed_arrows : List Str := ["count", "arrows", "ahead", "at", "arrow"]
def t_uneed_arrows : En → T Fl := (sSq (sIf (fB (f1 (oIsT "tuple" true) (fVar 1))) sBad sNx)
  (sSq (sSet 2 (fTup aNil))
  (sFor (iRg dEnum (aCons (fVar 1) aNil)) (gT 2 (gsC (gN 3) (gsC (gN 4) gsN))) (sSq (sIf (bOr (bNot (fTru (fCall d_is_lot (aCons (fVar 0) (aCons (fVar 4) aNil))))) (bOr (fB (f2 oNe (f1 oLen (fVar 4)) (fC (.int 2)))) (fB (f2 oLe (fVar 4) (fVar 2))))) sBad sNx)
  (sSet 2 (fVar 4))))))
def d_uneed_arrows : List D → T D := fnD n_uneed_arrows 2 t_uneed_arrows
/-! ### _need_causes -/
abbrev n_uneed_causes : List Str := ["count", "causes", "ahead", "at", "cause"]
def t_uneed_causes : En → T Fl := (sSq (sIf (bOr (fB (f1 (oIsT "tuple" true) (fVar 1))) (fB (f2 oGt (f1 oLen (fVar 1)) (fC (.int 20))))) sBad sNx)
  (sSq (sSet 2 (fTup aNil))
  (sFor (iRg dEnum (aCons (fVar 1) aNil)) (gT 2 (gsC (gN 3) (gsC (gN 4) gsN))) (sSq (sIf (bOr (bNot (fTru (fCall d_is_lot (aCons (fVar 0) (aCons (fVar 4) aNil))))) (bOr (fB (f2 oLt (f1 oLen (fVar 4)) (fC (.int 2)))) (fB (f2 oLe (fVar 4) (fVar 2))))) sBad sNx)
  (sSet 2 (fVar 4))))))
def d_uneed_causes : List D → T D := fnD n_uneed_causes 2 t_uneed_causes
/-! ### need_drawing -/
abbrev n_need_drawing : List Str := ["drawing", "count", "arrows", "causes"]
def t_need_drawing : En → T Fl := (sSq (sIf (bNot (fTru (fCall d_is_tuple_of (aCons (fVar 0) (aCons (fC (.int 3)) aNil))))) sBad sNx)
  (sSq (sAsg (fVar 0) (gT 3 (gsC (gN 1) (gsC (gN 2) (gsC (gN 3) gsN)))))
  (sSq (sIf (bNot (fTru (fCall d_is_integer (aCons (fVar 1) (aCons (fC (.int 1)) (aCons (fC (.int 10)) aNil)))))) sBad sNx)
  (sSq (sDrop (fCall d_uneed_arrows (aCons (fVar 1) (aCons (fVar 2) aNil))))
  (sSq (sDrop (fCall d_uneed_causes (aCons (fVar 1) (aCons (fVar 3) aNil))))
  (sRet (fVar 0)))))))
def d_need_drawing : List D → T D := fnD n_need_drawing 1 t_need_drawing
/-! ### need_lot -/
abbrev n_need_lot : List Str := ["drawing", "value"]
def t_need_lot : En → T Fl := (sSq (sDrop (fCall d_need_drawing (aCons (fVar 0) aNil)))
  (sSq (sIf (bNot (fTru (fCall d_is_lot (aCons (f2 oIx (fVar 0) (fC (.int 0))) (aCons (fVar 1) aNil))))) sBad sNx)
  (sRet (fVar 1))))
def d_need_lot : List D → T D := fnD n_need_lot 2 t_need_lot
/-! ### need_thing -/
abbrev n_need_thing : List Str := ["drawing", "value"]
def t_need_thing : En → T Fl := (sSq (sDrop (fCall d_need_drawing (aCons (fVar 0) aNil)))
  (sSq (sIf (bNot (fTru (fCall d_is_integer (aCons (fVar 1) (aCons (fC (.int 0)) (aCons (f2 oSub (f2 oIx (fVar 0) (fC (.int 0))) (fC (.int 1))) aNil)))))) sBad sNx)
  (sRet (fVar 1))))
def d_need_thing : List D → T D := fnD n_need_thing 2 t_need_thing
/-! ### parents_of -/
abbrev n_parents_of : List Str := ["drawing", "lot", "thing"]
def t_parents_of : En → T Fl := (sSq (sDrop (fCall d_need_lot (aCons (fVar 0) (aCons (fVar 1) aNil))))
  (sSq (sDrop (fCall d_need_thing (aCons (fVar 0) (aCons (fVar 2) aNil))))
  (sRet (fCall d_parents_in (aCons (f2 oIx (fVar 0) (fC (.int 1))) (aCons (fVar 1) (aCons (fVar 2) aNil)))))))
def d_parents_of : List D → T D := fnD n_parents_of 3 t_parents_of
/-! ### children_of -/
abbrev n_children_of : List Str := ["drawing", "lot", "thing"]
def t_children_of : En → T Fl := (sSq (sDrop (fCall d_need_lot (aCons (fVar 0) (aCons (fVar 1) aNil))))
  (sSq (sDrop (fCall d_need_thing (aCons (fVar 0) (aCons (fVar 2) aNil))))
  (sRet (fCall d_children_in (aCons (f2 oIx (fVar 0) (fC (.int 1))) (aCons (fVar 1) (aCons (fVar 2) aNil)))))))
def d_children_of : List D → T D := fnD n_children_of 3 t_children_of
/-! ### causes_of -/
abbrev n_causes_of : List Str := ["drawing", "thing"]
def t_causes_of : En → T Fl := (sSq (sDrop (fCall d_need_thing (aCons (fVar 0) (aCons (fVar 1) aNil))))
  (sRet (fCall d_causes_with (aCons (f2 oIx (fVar 0) (fC (.int 2))) (aCons (fVar 1) aNil)))))
def d_causes_of : List D → T D := fnD n_causes_of 2 t_causes_of
/-! ### linked -/
abbrev n_linked : List Str := ["drawing", "one", "other"]
def t_linked : En → T Fl := (sSq (sDrop (fCall d_need_thing (aCons (fVar 0) (aCons (fVar 1) aNil))))
  (sSq (sDrop (fCall d_need_thing (aCons (fVar 0) (aCons (fVar 2) aNil))))
  (sSq (sIf (fB (f2 oEq (fVar 1) (fVar 2))) sBad sNx)
  (sRet (fG1 mkAny (iSeq (f2 oIx (fVar 0) (fC (.int 2)))) gYes (gBv (gAnd (gIn false (gFree 1) (gLoc 0)) (gIn false (gFree 2) (gLoc 0)))))))))
def d_linked : List D → T D := fnD n_linked 3 t_linked
/-! ### lies_in -/
abbrev n_lies_in : List Str := ["lot", "other"]
def t_lies_in : En → T Fl := (sRet (fG1 mkAll (iSeq (fVar 0)) gYes (gBv (gIn false (gLoc 0) (gFree 1)))))
def d_lies_in : List D → T D := fnD n_lies_in 2 t_lies_in
/-! ### leading_in -/
abbrev n_leading_in : List Str := ["arrows", "lot", "goal", "leads", "start", "end"]
def t_leading_in : En → T Fl := (sOwS 3 (fVar 2) (sSqR [3] (sFor (iOf dRev (fVar 0)) (gT 2 (gsC (gN 4) (gsC (gN 5) gsN))) (sIf (bAnd (fB (f2 (oIn false) (fVar 4) (fVar 1))) (fB (fSIn false (fVar 5) 3))) (oSAdd 3 (fVar 4)) sNx)) (sSqR [3] (sRet (f1 oTupOf (fSSort 3))) (sRel [3] sNx))))
def d_leading_in : List D → T D := fnD n_leading_in 3 t_leading_in
/-! ### is_closed -/
abbrev n_is_closed : List Str := ["arrows", "lot", "some"]
def t_is_closed : En → T Fl := (sRet (fG2 mkAll (iPrs (fVar 0)) (gAnd (gIn false (gLoc 1) (gFree 2)) (gIn false (gLoc 0) (gFree 1))) (gBv (gIn false (gLoc 0) (gFree 2)))))
def d_is_closed : List D → T D := fnD n_is_closed 3 t_is_closed
/-! ### need_lot_within -/
abbrev n_need_lot_within : List Str := ["drawing", "lot", "value"]
def t_need_lot_within : En → T Fl := (sSq (sDrop (fCall d_need_lot (aCons (fVar 0) (aCons (fVar 1) aNil))))
  (sSq (sDrop (fCall d_need_lot (aCons (fVar 0) (aCons (fVar 2) aNil))))
  (sSq (sIf (bNot (fTru (fCall d_lies_in (aCons (fVar 2) (aCons (fVar 1) aNil))))) sBad sNx)
  (sRet (fVar 2)))))
def d_need_lot_within : List D → T D := fnD n_need_lot_within 3 t_need_lot_within
/-! ### leading -/
abbrev n_leading : List Str := ["drawing", "lot", "goal"]
def t_leading : En → T Fl := (sSq (sDrop (fCall d_need_lot_within (aCons (fVar 0) (aCons (fVar 1) (aCons (fVar 2) aNil)))))
  (sRet (fCall d_leading_in (aCons (f2 oIx (fVar 0) (fC (.int 1))) (aCons (fVar 1) (aCons (fVar 2) aNil))))))
def d_leading : List D → T D := fnD n_leading 3 t_leading
/-! ### closed_up -/
abbrev n_closed_up : List Str := ["drawing", "lot", "some"]
def t_closed_up : En → T Fl := (sSq (sDrop (fCall d_need_lot_within (aCons (fVar 0) (aCons (fVar 1) (aCons (fVar 2) aNil)))))
  (sRet (fCall d_is_closed (aCons (f2 oIx (fVar 0) (fC (.int 1))) (aCons (fVar 1) (aCons (fVar 2) aNil))))))
def d_closed_up : List D → T D := fnD n_closed_up 3 t_closed_up
/-! ### meets -/
abbrev n_meets : List Str := ["lot", "other"]
def t_meets : En → T Fl := (sRet (fG1 mkAny (iSeq (fVar 0)) gYes (gBv (gIn false (gLoc 0) (gFree 1)))))
def d_meets : List D → T D := fnD n_meets 2 t_meets
/-! ### all_without -/
abbrev n_all_without : List Str := ["count", "lot"]
def t_all_without : En → T Fl := (sRet (fG1 mkT (iRg dRg0 (aCons (fVar 0) aNil)) (gIn true (gLoc 0) (gFree 1)) (gLoc 0)))
def d_all_without : List D → T D := fnD n_all_without 2 t_all_without
/-! ### goal_in -/
abbrev n_goal_in : List Str := ["drawing", "closed", "ends", "count", "arrows", "_"]
def t_goal_in : En → T Fl := (sSq (sAsg (fVar 0) (gT 3 (gsC (gN 3) (gsC (gN 4) (gsC (gN 5) gsN)))))
  (sRet (fCall d_leading_in (aCons (fVar 4) (aCons (fCall d_all_without (aCons (fVar 3) (aCons (fVar 1) aNil))) (aCons (fVar 2) aNil))))))
def d_goal_in : List D → T D := fnD n_goal_in 3 t_goal_in
/-! ### goal_of -/
abbrev n_goal_of : List Str := ["drawing", "shut", "ends"]
def t_goal_of : En → T Fl := (sSq (sDrop (fCall d_need_lot (aCons (fVar 0) (aCons (fVar 1) aNil))))
  (sSq (sDrop (fCall d_need_lot (aCons (fVar 0) (aCons (fVar 2) aNil))))
  (sSq (sIf (fTru (fCall d_meets (aCons (fVar 2) (aCons (fVar 1) aNil)))) sBad sNx)
  (sRet (fCall d_goal_in (aCons (fVar 0) (aCons (fVar 1) (aCons (fVar 2) aNil))))))))
def d_goal_of : List D → T D := fnD n_goal_of 3 t_goal_of
/-! ### all_things -/
abbrev n_all_things : List Str := ["count"]
def t_all_things : En → T Fl := (sRet (fTupRg (fVar 0)))
def d_all_things : List D → T D := fnD n_all_things 1 t_all_things
/-! ### need_question -/
abbrev n_need_question : List Str := ["question", "drawing", "tried", "by_hand", "seen", "asked", "place"]
def t_need_question : En → T Fl := (sSq (sIf (bNot (fTru (fCall d_is_tuple_of (aCons (fVar 0) (aCons (fC (.int 5)) aNil))))) sBad sNx)
  (sSq (sAsg (fVar 0) (gT 5 (gsC (gN 1) (gsC (gN 2) (gsC (gN 3) (gsC (gN 4) (gsC (gN 5) gsN)))))))
  (sSq (sDrop (fCall d_need_drawing (aCons (fVar 1) aNil)))
  (sSq (sFor (iSeq (fTup (aCons (fC (.int 1)) (aCons (fC (.int 2)) (aCons (fC (.int 3)) (aCons (fC (.int 4)) aNil)))))) (gN 6) (sIf (bNot (fTru (fCall d_is_lot (aCons (f2 oIx (fVar 1) (fC (.int 0))) (aCons (f2 oIx (fVar 0) (fVar 6)) aNil))))) sBad sNx))
  (sSq (sIf (bNot (fTru (fVar 5))) sBad sNx)
  (sSq (sIf (bNot (fTru (fCall d_lies_in (aCons (fVar 2) (aCons (fVar 3) aNil))))) sBad sNx)
  (sSq (sIf (fTru (fCall d_meets (aCons (fVar 4) (aCons (fVar 3) aNil)))) sBad sNx)
  (sSq (sIf (bOr (fTru (fCall d_meets (aCons (fVar 5) (aCons (fVar 3) aNil)))) (fTru (fCall d_meets (aCons (fVar 5) (aCons (fVar 4) aNil))))) sBad sNx)
  (sRet (fVar 0))))))))))
def d_need_question : List D → T D := fnD n_need_question 1 t_need_question
/-! ### is_number -/
abbrev n_is_number : List Str := ["value"]
def t_is_number : En → T Fl := (sRet (fAnd (f1 (oIsT "int" false) (fVar 0)) (oCh oLe oLt (fC (.int 0)) (fVar 0) (f2 oPow (fC (.int 10)) (fC (.int 20))))))
def d_is_number : List D → T D := fnD n_is_number 1 t_is_number
/-! ### many_rows -/
abbrev n_many_rows : List Str := ["sizes", "many", "size"]
def t_many_rows : En → T Fl := (sSq (sSet 1 (fC (.int 1)))
  (sSq (sFor (iSeq (fVar 0)) (gN 2) (sSet 1 (f2 oMul (fVar 1) (fVar 2))))
  (sRet (fVar 1))))
def d_many_rows : List D → T D := fnD n_many_rows 1 t_many_rows
/-! ### _key_sizes -/
abbrev n_ukey_sizes : List Str := ["drawing", "world", "thing", "count", "arrows", "causes", "sizes", "parent", "number"]
def t_ukey_sizes : En → T Fl := (sSq (sAsg (fVar 0) (gT 3 (gsC (gN 3) (gsC (gN 4) (gsC (gN 5) gsN)))))
  (sSq (sSet 6 (fLc (iSeq (fCall d_parents_in (aCons (fVar 4) (aCons (fCall d_all_things (aCons (fVar 3) aNil)) (aCons (fVar 2) aNil))))) (gN 7) bYes (f2 oIx (f2 oIx (fVar 1) (fC (.int 0))) (fVar 7)) [7]))
  (sRet (f2 oAdd (fVar 6) (fLc (iSeq (fCall d_causes_with (aCons (fVar 5) (aCons (fVar 2) aNil)))) (gN 8) bYes (f1 oLen (f2 oIx (f2 oIx (fVar 1) (fC (.int 1))) (fVar 8))) [8])))))
def d_ukey_sizes : List D → T D := fnD n_ukey_sizes 3 t_ukey_sizes
/-! ### hidden_sizes -/
abbrev n_hidden_sizes : List Str := ["world", "weights"]
def t_hidden_sizes : En → T Fl := (sRet (fLc (iSeq (f2 oIx (fVar 0) (fC (.int 1)))) (gN 1) bYes (f1 oLen (fVar 1)) [1]))
def d_hidden_sizes : List D → T D := fnD n_hidden_sizes 1 t_hidden_sizes
/-! ### _weight_of -/
abbrev n_uweight_of : List Str := ["world", "cause_row", "weight", "weights", "value"]
def t_uweight_of : En → T Fl := (sSq (sSet 2 (fC (.int 1)))
  (sSq (sFor (iRg dZip (aCons (f2 oIx (fVar 0) (fC (.int 1))) (aCons (fVar 1) aNil))) (gT 2 (gsC (gN 3) (gsC (gN 4) gsN))) (sSet 2 (f2 oMul (fVar 2) (f2 oIx (fVar 3) (fVar 4)))))
  (sRet (fVar 2))))
def d_uweight_of : List D → T D := fnD n_uweight_of 2 t_uweight_of
/-! ### _is_deed -/
abbrev n_uis_deed : List Str := ["sizes", "value", "least", "pair"]
def t_uis_deed : En → T Fl := (sSq (sIf (fB (f1 (oIsT "tuple" true) (fVar 1))) (sRet (fC (.bool false))) sNx)
  (sSq (sSet 2 (fC (.int 0)))
  (sSq (sFor (iSeq (fVar 1)) (gN 3) (sSq (sIf (bOr (bNot (fTru (fCall d_is_tuple_of (aCons (fVar 3) (aCons (fC (.int 2)) aNil))))) (bNot (fTru (fCall d_is_integer (aCons (f2 oIx (fVar 3) (fC (.int 0))) (aCons (fVar 2) (aCons (f2 oSub (f1 oLen (fVar 0)) (fC (.int 1))) aNil))))))) (sRet (fC (.bool false))) sNx)
  (sSq (sIf (bNot (fTru (fCall d_is_integer (aCons (f2 oIx (fVar 3) (fC (.int 1))) (aCons (fC (.int 0)) (aCons (f2 oSub (f2 oIx (fVar 0) (f2 oIx (fVar 3) (fC (.int 0)))) (fC (.int 1))) aNil)))))) (sRet (fC (.bool false))) sNx)
  (sSet 2 (f2 oAdd (f2 oIx (fVar 3) (fC (.int 0))) (fC (.int 1)))))))
  (sRet (fC (.bool true))))))
def d_uis_deed : List D → T D := fnD n_uis_deed 2 t_uis_deed
/-! ### lot_without -/
abbrev n_lot_without : List Str := ["lot", "other"]
def t_lot_without : En → T Fl := (sRet (fG1 mkT (iSeq (fVar 0)) (gIn true (gLoc 0) (gFree 1)) (gLoc 0)))
def d_lot_without : List D → T D := fnD n_lot_without 2 t_lot_without
/-! ### _cut_arrows -/
abbrev n_ucut_arrows : List Str := ["drawing", "over", "under", "start", "end"]
def t_ucut_arrows : En → T Fl := (sRet (f1 oTupOf (fLc (iSeq (f2 oIx (fVar 0) (fC (.int 1)))) (gT 2 (gsC (gN 3) (gsC (gN 4) gsN))) (bAnd (fB (f2 (oIn true) (fVar 4) (fVar 1))) (fB (f2 (oIn true) (fVar 3) (fVar 2)))) (fTup (aCons (fVar 3) (aCons (fVar 4) aNil))) [3, 4])))
def d_ucut_arrows : List D → T D := fnD n_ucut_arrows 3 t_ucut_arrows
/-! ### _need_ends -/
abbrev n_uneed_ends : List Str := ["drawing", "over", "under", "one", "others", "seen"]
def t_uneed_ends : En → T Fl := (sSq (sDrop (fCall d_need_lot (aCons (fVar 0) (aCons (fVar 1) aNil))))
  (sSq (sDrop (fCall d_need_lot (aCons (fVar 0) (aCons (fVar 2) aNil))))
  (sSq (sDrop (fCall d_need_thing (aCons (fVar 0) (aCons (fVar 3) aNil))))
  (sSq (sDrop (fCall d_need_lot (aCons (fVar 0) (aCons (fVar 4) aNil))))
  (sSq (sIf (bOr (bNot (fTru (fVar 4))) (fB (f2 (oIn false) (fVar 3) (fVar 4)))) sBad sNx)
  (sSq (sDrop (fCall d_need_lot (aCons (fVar 0) (aCons (fVar 5) aNil))))
  (sIf (bOr (fB (f2 (oIn false) (fVar 3) (fVar 5))) (fTru (fCall d_meets (aCons (fVar 4) (aCons (fVar 5) aNil))))) sBad sNx)))))))
def d_uneed_ends : List D → T D := fnD n_uneed_ends 6 t_uneed_ends
/-! ### _meetable -/
abbrev n_umeetable : List Str := ["drawing", "over", "under", "seen"]
def t_umeetable : En → T Fl := (sRet (fCall d_leading_in (aCons (fCall d_ucut_arrows (aCons (fVar 0) (aCons (fVar 1) (aCons (fVar 2) aNil)))) (aCons (fCall d_all_things (aCons (f2 oIx (fVar 0) (fC (.int 0))) aNil)) (aCons (fVar 3) aNil)))))
def d_umeetable : List D → T D := fnD n_umeetable 4 t_umeetable
/-! ### is_row_of -/
abbrev n_is_row_of : List Str := ["lot", "value"]
def t_is_row_of : En → T Fl := (sSq (sIf (bOr (fB (f1 (oIsT "tuple" true) (fVar 1))) (fB (f2 oGt (f1 oLen (fVar 1)) (f1 oLen (fVar 0))))) (sRet (fC (.bool false))) sNx)
  (sSq (sIf (bNot (fTru (fG1 mkAll (iSeq (fVar 1)) gYes (gBv (gAnd (gIsT "int" false (gLoc 0)) (gIn false (gLoc 0) (gFree 0))))))) (sRet (fC (.bool false))) sNx)
  (sRet (f2 oEq (fLenSet (fVar 1)) (f1 oLen (fVar 1))))))
def d_is_row_of : List D → T D := fnD n_is_row_of 2 t_is_row_of
/-! ### _has_road_form -/
abbrev n_uhas_road_form : List Str := ["count", "value"]
def t_uhas_road_form : En → T Fl := (sSq (sIf (bOr (bNot (fTru (fCall d_is_tuple_of (aCons (fVar 1) (aCons (fC (.int 2)) aNil))))) (bNot (fTru (fCall d_is_row_of (aCons (fCall d_all_things (aCons (fVar 0) aNil)) (aCons (f2 oIx (fVar 1) (fC (.int 0))) aNil)))))) (sRet (fC (.bool false))) sNx)
  (sRet (fAnd (f2 oGt (f1 oLen (f2 oIx (fVar 1) (fC (.int 0)))) (fC (.int 1))) (fCall d_is_tuple_of (aCons (f2 oIx (fVar 1) (fC (.int 1))) (aCons (f2 oSub (f1 oLen (f2 oIx (fVar 1) (fC (.int 0)))) (fC (.int 1))) aNil))))))
def d_uhas_road_form : List D → T D := fnD n_uhas_road_form 2 t_uhas_road_form
/-! ### _is_passed -/
abbrev n_uis_passed : List Str := ["thing", "before", "behind", "meetable", "seen"]
def t_uis_passed : En → T Fl := (sSq (sIf (bAnd (fB (f2 oNe (fVar 1) (fC (.str "from")))) (fB (f2 oNe (fVar 2) (fC (.str "to"))))) (sRet (f2 (oIn false) (fVar 0) (fVar 3))) sNx)
  (sRet (f2 (oIn true) (fVar 0) (fVar 4))))
def d_uis_passed : List D → T D := fnD n_uis_passed 5 t_uis_passed
/-! ### _is_kind -/
abbrev n_uis_kind : List Str := ["drawing", "arrows", "over", "pair", "kind", "start", "end", "cause"]
def t_uis_kind : En → T Fl := (sSq (sIf (fB (f1 (oIsT "str" false) (fVar 4))) (sSq (sAsg (fVar 3) (gT 2 (gsC (gN 5) (gsC (gN 6) gsN))))
  (sRet (fOr (fAnd (f2 oEq (fVar 4) (fC (.str "to"))) (f2 (oIn false) (fVar 3) (fVar 1))) (fAnd (f2 oEq (fVar 4) (fC (.str "from"))) (f2 (oIn false) (fTup (aCons (fVar 6) (aCons (fVar 5) aNil))) (fVar 1)))))) sNx)
  (sSq (sIf (bOr (bNot (fTru (fCall d_is_integer (aCons (fVar 4) (aCons (fC (.int 0)) (aCons (f2 oSub (f1 oLen (f2 oIx (fVar 0) (fC (.int 2)))) (fC (.int 1))) aNil)))))) (fTru (fCall d_meets (aCons (fVar 3) (aCons (fVar 2) aNil))))) (sRet (fC (.bool false))) sNx)
  (sSq (sSet 7 (f2 oIx (f2 oIx (fVar 0) (fC (.int 2))) (fVar 4)))
  (sRet (fAnd (f2 (oIn false) (f2 oIx (fVar 3) (fC (.int 0))) (fVar 7)) (f2 (oIn false) (f2 oIx (fVar 3) (fC (.int 1))) (fVar 7)))))))
def d_uis_kind : List D → T D := fnD n_uis_kind 5 t_uis_kind
/-! ### together -/
abbrev n_together : List Str := ["lot", "other"]
def t_together : En → T Fl := (sRet (f1 oTupOf (fSortSet (f2 oAdd (fVar 0) (fVar 1)))))
def d_together : List D → T D := fnD n_together 2 t_together
/-! ### things_in -/
abbrev n_things_in : List Str := ["question"]
def t_things_in : En → T Fl := (sRet (fCall d_together (aCons (fCall d_together (aCons (f2 oIx (fVar 0) (fC (.int 2))) (aCons (f2 oIx (fVar 0) (fC (.int 3))) aNil))) (aCons (f2 oIx (fVar 0) (fC (.int 4))) aNil))))
def d_things_in : List D → T D := fnD n_things_in 1 t_things_in
/-! ### things_of -/
abbrev n_things_of : List Str := ["question"]
def t_things_of : En → T Fl := (sSq (sDrop (fCall d_need_question (aCons (fVar 0) aNil)))
  (sRet (fCall d_things_in (aCons (fVar 0) aNil))))
def d_things_of : List D → T D := fnD n_things_of 1 t_things_of
/-! ### goal_behind -/
abbrev n_goal_behind : List Str := ["question", "moved", "drawing", "_", "by_hand", "seen", "asked"]
def t_goal_behind : En → T Fl := (sSq (sAsg (fVar 0) (gT 5 (gsC (gN 2) (gsC (gN 3) (gsC (gN 4) (gsC (gN 5) (gsC (gN 6) gsN)))))))
  (sRet (fCall d_goal_in (aCons (fVar 2) (aCons (fCall d_together (aCons (fVar 4) (aCons (fVar 1) aNil))) (aCons (fCall d_together (aCons (fCall d_lot_without (aCons (fVar 5) (aCons (fVar 1) aNil))) (aCons (fVar 6) aNil))) aNil))))))
def d_goal_behind : List D → T D := fnD n_goal_behind 2 t_goal_behind
/-! ### goal -/
abbrev n_goal : List Str := ["question", "moved"]
def t_goal : En → T Fl := (sSq (sDrop (fCall d_need_question (aCons (fVar 0) aNil)))
  (sSq (sIf (bNot (fTru (fCall d_is_row_of (aCons (f2 oIx (fVar 0) (fC (.int 3))) (aCons (fVar 1) aNil))))) sBad sNx)
  (sRet (fCall d_goal_behind (aCons (fVar 0) (aCons (fVar 1) aNil))))))
def d_goal : List D → T D := fnD n_goal 2 t_goal
end PG
set_option Elab.async false
set_option linter.all false
set_option maxRecDepth 100000
set_option maxHeartbeats 4000000
namespace PL
open PySem L2
theorem bind_cg {α β : Type} {t t' : T α} {f : α → T β} (h : t = t') : t.bind f = t'.bind f := by rw [h]
/-! ### loops, by what each turn does -/
theorem forL_wp {gt : D → En → T En} {b : En → T Fl} {Q : Fl → Nat → Prop} {E : Ex → Nat → Prop} (I : Nat → En → Nat → Prop) : ∀ (xs : List D) (i : Nat) (e : En) (n : Nat), I i e n →
    (∀ j x e n, xs[j]? = some x → I (i + j) e n → ((gt x e).bind b).wp n (fun fl m => match fl with
      | .nx e' => I (i + j + 1) e' m
      | .ct e' => I (i + j + 1) e' m
      | .bk e' => Q (.nx e') m
      | .rt d => Q (.rt d) m) E) →
    (∀ e n, I (i + xs.length) e n → Q (.nx e) n) → (forL gt b xs e).wp n Q E
  | [], i, e, n, h, _, q => q e n (by simpa using h)
  | x :: xs, i, e, n, h, hs, q => by
    unfold forL
    rw [T.wp_bind]
    have h0 := T.wp_bind.mp (hs 0 x e n rfl (by simpa using h))
    refine T.wp_mono h0 (fun e1 m z => ?_) fun _ _ z => z
    rw [T.wp_bind]
    refine T.wp_mono z (fun fl m2 z => ?_) fun _ _ z => z
    have next : ∀ e2, I (i + 0 + 1) e2 m2 → (forL gt b xs e2).wp m2 Q E := fun e2 h2 => forL_wp I xs (i + 1) e2 m2 (by simpa using h2) (fun j y e n hj hI => by
      have := hs (j + 1) y e n (by simpa using hj) (by rw [← Nat.add_assoc, Nat.add_right_comm]; exact hI)
      refine T.wp_mono this (fun fl m z => ?_) fun _ _ z => z
      rw [show i + (j + 1) + 1 = i + 1 + j + 1 by omega] at z
      exact z) fun e n hI => q e n (by rw [List.length_cons, show i + (xs.length + 1) = i + 1 + xs.length by omega]; exact hI)
    cases fl with
    | nx e2 => exact next e2 z
    | ct e2 => exact next e2 z
    | bk e2 => exact z
    | rt d => exact z
/-- a turn gives nothing but the next slots -/
theorem forL_fold {σ α : Type} {gt : D → En → T En} {b : En → T Fl} (enc : σ → En) (xe : α → D) (step : α → σ → σ) (P : σ → Prop) : ∀ (xs : List α) (s : σ), P s → (∀ x ∈ xs, ∀ s, P s → ((gt (xe x) (enc s)).bind b = .ok (.nx (enc (step x s))) ∧ P (step x s))) →
    forL gt b (xs.map xe) (enc s) = .ok (.nx (enc (xs.foldl (fun s x => step x s) s)))
  | [], s, _, _ => rfl
  | x :: xs, s, p, h => by
    have h0 := h x List.mem_cons_self s p
    have e : forL gt b ((x :: xs).map xe) (enc s) = ((gt (xe x) (enc s)).bind b).bind fun f => match f with
      | .nx e2 => forL gt b (xs.map xe) e2
      | .ct e2 => forL gt b (xs.map xe) e2
      | .bk e2 => .ok (.nx e2)
      | .rt d => .ok (.rt d) := by
      rw [List.map_cons]
      show (gt (xe x) (enc s)).bind _ = _
      rw [T.bind_assoc]
      all_goals rfl
    rw [e, h0.1]
    exact forL_fold enc xe step P xs (step x s) h0.2 fun y hy s ps => h y (List.mem_cons_of_mem _ hy) s ps
/-- a comprehension whose turns draw nothing -/
theorem lcL_ok {α : Type} {gt : D → En → T En} {c : En → T Bool} {f : En → T D} {e : En} (xe : α → D) (p : α → Bool) (y : α → D) : ∀ (xs : List α), (∀ x ∈ xs, ∃ e1, gt (xe x) e = .ok e1 ∧ c e1 = .ok (p x) ∧ (p x = true → f e1 = .ok (y x))) →
    lcL gt c f e (xs.map xe) = .ok ((xs.filter p).map y)
  | [], _ => rfl
  | x :: xs, h => by
    obtain ⟨e1, h1, h2, h3⟩ := h x List.mem_cons_self
    have ih := lcL_ok xe p y xs fun z hz => h z (List.mem_cons_of_mem _ hz)
    rw [List.map_cons, lcL, h1, T.ok_bind, h2, T.ok_bind, List.filter_cons]
    cases hp : p x with
    | true => simp only [if_true, h3 hp, T.ok_bind, ih, List.map_cons]
    | false => simp only [Bool.false_eq_true, if_false, ih]
theorem genL_ok {α : Type} {tst : List D → En → Option Bool} {elt : List D → En → Option D} {e : En} (xe : α → List D) (p : α → Bool) (y : α → D) : ∀ (xs : List α), (∀ x ∈ xs, tst (xe x) e = some (p x) ∧ (p x = true → elt (xe x) e = some (y x))) → genL tst elt e (xs.map xe) = some ((xs.filter p).map y)
  | [], _ => rfl
  | x :: xs, h => by
    obtain ⟨h2, h3⟩ := h x List.mem_cons_self
    have ih := genL_ok xe p y xs fun z hz => h z (List.mem_cons_of_mem _ hz)
    rw [List.map_cons, genL, h2, Option.bind_some, List.filter_cons]
    cases hp : p x with
    | true => simp only [if_true, h3 hp, Option.bind_some, ih, Option.map_some, List.map_cons]
    | false => simp only [Bool.false_eq_true, if_false, ih]
/-! ### ints within lots -/
abbrev eI (xs : List Int) : D := .tuple (xs.map .int)
theorem any_eqv (k : Int) : ∀ xs : List Int, ((xs.map PyData.int).any fun y => PyData.eqv y (.int k)) = decide (k ∈ xs)
  | [] => by simp
  | x :: xs => by
    rw [List.map_cons, List.any_cons, any_eqv k xs]
    show ((x == k) || decide (k ∈ xs)) = _
    by_cases h : x = k
    · subst h; simp
    · have h2 : ¬ k = x := fun z => h z.symm
      simp [h, h2]
theorem all_flat : ∀ xs : List Int, (xs.map PyData.int).all flatD = true
  | [] => rfl
  | x :: xs => by rw [List.map_cons, List.all_cons, all_flat xs]; rfl
theorem oIn_tup (neg : Bool) (k : Int) (xs : List Int) : oIn neg (.int k) (.tuple (xs.map .int)) = .ok (.bool (if neg then !decide (k ∈ xs) else decide (k ∈ xs))) := by
  simp only [oIn, flatD, all_flat, Bool.and_self, if_true, any_eqv]
theorem oIn_lst (neg : Bool) (k : Int) (xs : List Int) : oIn neg (.int k) (.list (xs.map .int)) = .ok (.bool (if neg then !decide (k ∈ xs) else decide (k ∈ xs))) := by
  simp only [oIn, flatD, all_flat, Bool.and_self, if_true, any_eqv]
theorem canLay_ints : ∀ xs : List Int, PyData.canLayAll0 (xs.map .int) = true
  | [] => rfl
  | x :: xs => by simp only [List.map_cons, PyData.canLayAll0, PyData.canLay0, canLay_ints xs, Bool.and_self]
theorem pls_ints : ∀ xs : List Int, pls (xs.map .int) = true
  | [] => rfl
  | x :: xs => by simp only [List.map_cons, pls, pl, pls_ints xs, Bool.and_self]
theorem good_ints (xs : List Int) : good (.tuple (xs.map .int)) = true := by
  have h2 : PyData.depthAll (xs.map .int) = 0 := PySem.W.depth_ints xs
  simp [good, pl, pls_ints, SeqAt.shaped, PyData.canLay0, canLay_ints, PyData.depth, h2]
theorem good_lints (xs : List Int) : good (.list (xs.map .int)) = true := by
  have h2 : PyData.depthAll (xs.map .int) = 0 := PySem.W.depth_ints xs
  simp [good, pl, pls_ints, SeqAt.shaped, PyData.canLay0, canLay_ints, PyData.depth, h2]
theorem good_int (i : Int) : good (.int i) = true := by
  simp [good, pl, SeqAt.shaped, PyData.canLay0, PyData.depth]
theorem eqv_int (i j : Int) : PyData.eqv (.int i) (.int j) = decide (i = j) := by
  show (i == j) = _
  by_cases h : i = j <;> simp [h]
theorem oEq_int (i j : Int) : oEq (.int i) (.int j) = .ok (.bool (decide (i = j))) := by simp [oEq, good_int, eqv_int]
theorem oNe_int (i j : Int) : oNe (.int i) (.int j) = .ok (.bool (!decide (i = j))) := by simp [oNe, good_int, eqv_int]
theorem cast0 : ((0 : Nat) : Int) = 0 := rfl
theorem cast1 : ((1 : Nat) : Int) = 1 := rfl
theorem cast2 : ((2 : Nat) : Int) = 2 := rfl
theorem cast3 : ((3 : Nat) : Int) = 3 := rfl
theorem cast4 : ((4 : Nat) : Int) = 4 := rfl
theorem cast5 : ((5 : Nat) : Int) = 5 := rfl
theorem asIs_ok (ns : List Int) (h : ns.length ≤ 1000) : asIs (.tuple (ns.map .int)) = .ok ns := by
  simp only [asIs, intsOf_map]
  rw [if_pos h]
theorem oLe_int (i j : Int) : oLe (.int i) (.int j) = .ok (.bool (decide (i ≤ j))) := rfl
theorem oLt_int (i j : Int) : oLt (.int i) (.int j) = .ok (.bool (decide (i < j))) := rfl
theorem oGt_int (i j : Int) : oGt (.int i) (.int j) = .ok (.bool (decide (j < i))) := rfl
theorem oGe_int (i j : Int) : oGe (.int i) (.int j) = .ok (.bool (decide (j ≤ i))) := rfl
theorem oAdd_int (i j : Int) : oAdd (.int i) (.int j) = .ok (.int (i + j)) := rfl
theorem oSub_int (i j : Int) : oSub (.int i) (.int j) = .ok (.int (i - j)) := rfl
theorem bool_and (c d : Bool) : (if c = true then (T.ok (.bool d) : T D) else .ok (.bool false)) = .ok (.bool (c && d)) := by cases c <;> rfl
theorem bool_or (c d : Bool) : (if c = true then (T.ok (.bool true) : T D) else .ok (.bool d)) = .ok (.bool (c || d)) := by cases c <;> rfl
theorem t_and (c d : Bool) : (if c = true then (T.ok d : T Bool) else .ok false) = .ok (c && d) := by cases c <;> rfl
theorem t_or (c d : Bool) : (if c = true then (T.ok true : T Bool) else .ok d) = .ok (c || d) := by cases c <;> rfl
theorem intsOf_m (ns : List Int) : intsOf (ns.map PyData.int) = some ns := intsOf_map ns
theorem oLe_tup (xs ys : List Int) : oLe (.tuple (xs.map .int)) (.tuple (ys.map .int)) = .ok (.bool (leI xs ys)) := by simp [oLe, intsOf_map]
theorem oLt_tup (xs ys : List Int) : oLt (.tuple (xs.map .int)) (.tuple (ys.map .int)) = .ok (.bool (HT.lexLt xs ys)) := by simp [oLt, intsOf_map]
theorem oAdd_tup (xs ys : List D) (h : xs.length + ys.length ≤ 16000000) : oAdd (.tuple xs) (.tuple ys) = .ok (.tuple (xs ++ ys)) := by
  simp only [oAdd, mkT, List.length_append]
  rw [if_pos (by rw [PySem.sizeLine_eq]; omega)]
theorem oAdd_lst (xs ys : List D) (h : xs.length + ys.length ≤ 16000000) : oAdd (.list xs) (.list ys) = .ok (.list (xs ++ ys)) := by
  simp only [oAdd, mkL, List.length_append]
  rw [if_pos (by rw [PySem.sizeLine_eq]; omega)]
theorem mkT_ok (xs : List D) (h : xs.length ≤ 16000000) : mkT xs = .ok (.tuple xs) := by
  simp only [mkT]
  rw [if_pos (by rw [PySem.sizeLine_eq]; omega)]
theorem mkL_ok (xs : List D) (h : xs.length ≤ 16000000) : mkL xs = .ok (.list xs) := by
  simp only [mkL]
  rw [if_pos (by rw [PySem.sizeLine_eq]; omega)]
theorem gIn_tup {neg : Bool} {a b : List D → En → Option D} {ds : List D} {e : En} {k : Int} {xs : List Int} (ha : a ds e = some (.int k)) (hb : b ds e = some (.tuple (xs.map .int))) : gIn neg a b ds e = some (if neg then !decide (k ∈ xs) else decide (k ∈ xs)) := by
  simp only [gIn, ha, hb, flatD, all_flat, Bool.and_self, if_true, any_eqv]
theorem gIn_lst {neg : Bool} {a b : List D → En → Option D} {ds : List D} {e : En} {k : Int} {xs : List Int} (ha : a ds e = some (.int k)) (hb : b ds e = some (.list (xs.map .int))) : gIn neg a b ds e = some (if neg then !decide (k ∈ xs) else decide (k ∈ xs)) := by
  simp only [gIn, ha, hb, flatD, all_flat, Bool.and_self, if_true, any_eqv]
theorem bsOf_map : ∀ bs : List Bool, bsOf (bs.map PyData.bool) = some bs
  | [] => rfl
  | b :: bs => by simp [bsOf, bsOf_map bs]
theorem mkAll_map {α : Type} (p : α → Bool) (xs : List α) : mkAll (xs.map fun x => .bool (p x)) = .ok (.bool (xs.all p)) := by
  have : (xs.map fun x => PyData.bool (p x)) = (xs.map p).map PyData.bool := by rw [List.map_map]; rfl
  rw [this, mkAll, bsOf_map]
  simp
theorem mkAny_map {α : Type} (p : α → Bool) (xs : List α) : mkAny (xs.map fun x => .bool (p x)) = .ok (.bool (xs.any p)) := by
  have : (xs.map fun x => PyData.bool (p x)) = (xs.map p).map PyData.bool := by rw [List.map_map]; rfl
  rw [this, mkAny, bsOf_map]
  simp
theorem oIx_tup {ds : List D} {i : Nat} {d : D} (h : ds[i]? = some d) : oIx (.tuple ds) (.int (i : Nat)) = .ok d := by
  simp only [oIx, atI_nat h]
theorem oIx_lst {ds : List D} {i : Nat} {d : D} (h : ds[i]? = some d) : oIx (.list ds) (.int (i : Nat)) = .ok d := by
  simp only [oIx, atI_nat h]
theorem ixT0 (x0 : D) (r : List D) : oIx (.tuple (x0 :: r)) (.int 0) = .ok x0 := oIx_tup (i := 0) rfl
theorem ixL0 (x0 : D) (r : List D) : oIx (.list (x0 :: r)) (.int 0) = .ok x0 := oIx_lst (i := 0) rfl
theorem ixT1 (x0 x1 : D) (r : List D) : oIx (.tuple (x0 :: x1 :: r)) (.int 1) = .ok x1 := oIx_tup (i := 1) rfl
theorem ixL1 (x0 x1 : D) (r : List D) : oIx (.list (x0 :: x1 :: r)) (.int 1) = .ok x1 := oIx_lst (i := 1) rfl
theorem ixT2 (x0 x1 x2 : D) (r : List D) : oIx (.tuple (x0 :: x1 :: x2 :: r)) (.int 2) = .ok x2 := oIx_tup (i := 2) rfl
theorem ixL2 (x0 x1 x2 : D) (r : List D) : oIx (.list (x0 :: x1 :: x2 :: r)) (.int 2) = .ok x2 := oIx_lst (i := 2) rfl
theorem ixT3 (x0 x1 x2 x3 : D) (r : List D) : oIx (.tuple (x0 :: x1 :: x2 :: x3 :: r)) (.int 3) = .ok x3 := oIx_tup (i := 3) rfl
theorem ixL3 (x0 x1 x2 x3 : D) (r : List D) : oIx (.list (x0 :: x1 :: x2 :: x3 :: r)) (.int 3) = .ok x3 := oIx_lst (i := 3) rfl
theorem ixT4 (x0 x1 x2 x3 x4 : D) (r : List D) : oIx (.tuple (x0 :: x1 :: x2 :: x3 :: x4 :: r)) (.int 4) = .ok x4 := oIx_tup (i := 4) rfl
theorem ixL4 (x0 x1 x2 x3 x4 : D) (r : List D) : oIx (.list (x0 :: x1 :: x2 :: x3 :: x4 :: r)) (.int 4) = .ok x4 := oIx_lst (i := 4) rfl
theorem ixT5 (x0 x1 x2 x3 x4 x5 : D) (r : List D) : oIx (.tuple (x0 :: x1 :: x2 :: x3 :: x4 :: x5 :: r)) (.int 5) = .ok x5 := oIx_tup (i := 5) rfl
theorem ixL5 (x0 x1 x2 x3 x4 x5 : D) (r : List D) : oIx (.list (x0 :: x1 :: x2 :: x3 :: x4 :: x5 :: r)) (.int 5) = .ok x5 := oIx_lst (i := 5) rfl
theorem ixT6 (x0 x1 x2 x3 x4 x5 x6 : D) (r : List D) : oIx (.tuple (x0 :: x1 :: x2 :: x3 :: x4 :: x5 :: x6 :: r)) (.int 6) = .ok x6 := oIx_tup (i := 6) rfl
theorem ixL6 (x0 x1 x2 x3 x4 x5 x6 : D) (r : List D) : oIx (.list (x0 :: x1 :: x2 :: x3 :: x4 :: x5 :: x6 :: r)) (.int 6) = .ok x6 := oIx_lst (i := 6) rfl
theorem ixT7 (x0 x1 x2 x3 x4 x5 x6 x7 : D) (r : List D) : oIx (.tuple (x0 :: x1 :: x2 :: x3 :: x4 :: x5 :: x6 :: x7 :: r)) (.int 7) = .ok x7 := oIx_tup (i := 7) rfl
theorem ixL7 (x0 x1 x2 x3 x4 x5 x6 x7 : D) (r : List D) : oIx (.list (x0 :: x1 :: x2 :: x3 :: x4 :: x5 :: x6 :: x7 :: r)) (.int 7) = .ok x7 := oIx_lst (i := 7) rfl
/-! ### one step -/
theorem sNx_a  (e : En) : sNx  e = .ok (.nx e) := rfl
theorem sSq_a (s t : En → T Fl) (e : En) : sSq s t e = (s e).bind (sqK t) := rfl
theorem sIf_a (c : En → T Bool) (s t : En → T Fl) (e : En) : sIf c s t e = (c e).bind fun b => if b = true then s e else t e := rfl
theorem sSet_a (i : Nat) (f : En → T D) (e : En) : sSet i f e = (f e).bind fun d => .ok (.nx (e.set i (some d))) := rfl
theorem sAsg_a (f : En → T D) (gt : D → En → T En) (e : En) : sAsg f gt e = (f e).bind fun d => (gt d e).bind fun e' => .ok (.nx e') := rfl
theorem sRet_a (f : En → T D) (e : En) : sRet f e = (f e).bind fun d => .ok (.rt d) := rfl
theorem sRetN_a  (e0 : En) : sRetN  e0 = .ok (.rt .none) := rfl
theorem sDrop_a (f : En → T D) (e : En) : sDrop f e = (f e).bind fun _ => .ok (.nx e) := rfl
theorem sBad_a  (e0 : En) : sBad  e0 = .bad := rfl
theorem sFor_a (fi : En → T (List D)) (gt : D → En → T En) (b : En → T Fl) (e : En) : sFor fi gt b e = (fi e).bind fun ds => forL gt b ds e := rfl
theorem sBk_a  (e : En) : sBk  e = .ok (.bk e) := rfl
theorem sCt_a  (e : En) : sCt  e = .ok (.ct e) := rfl
theorem sPar_a (i j : Nat) (k : En → T (List D)) (e : En) : sPar i j k e = (k e).bind fun ds => match ds with
  | [a, b] => .ok (.nx ((e.set i (some a)).set j (some b)))
  | _ => .bad := rfl
theorem sOwS_a (i : Nat) (f : En → T D) (t : En → T Fl) (e : En) : sOwS i f t e = (f e).bind fun d => (asIs d).bind fun ns => t (e.set i (some (ownS (sortU ns)))) := rfl
theorem sSqR_a (js : List Nat) (s t : En → T Fl) (e : En) : sSqR js s t e = (s e).bind (sqR js t) := rfl
theorem sRel_a (js : List Nat) (t : En → T Fl) (e : En) : sRel js t e = t (relE js e) := rfl
theorem sOwL_a (i : Nat) (f : En → T (List D)) (t : En → T Fl) (e : En) : sOwL i f t e = (f e).bind fun ds => t (e.set i (some (ownL ds))) := rfl
theorem oSAdd_a (i : Nat) (f : En → T D) (e : En) : oSAdd i f e = match setAt e i with
  | some ns => (f e).bind fun d => match d with
    | .int k => if ns.length ≤ 4000 then .ok (.nx (e.set i (some (ownS (insU k ns))))) else .bad
    | _ => .bad
  | none => .bad := rfl
theorem oApp_a (i : Nat) (f : En → T D) (e : En) : oApp i f e = match lstAt e i with
  | some ds => (f e).bind fun d => if ds.length < 16777000 then .ok (.nx (e.set i (some (ownL (ds ++ [d]))))) else .bad
  | none => .bad := rfl
theorem oSetI_a (i : Nat) (f fi : En → T D) (e : En) : oSetI i f fi e = match lstAt e i with
  | some ds => (f e).bind fun d => (fi e).bind fun k => match k with
    | .int j => match ixN ds.length j with
      | some m => .ok (.nx (e.set i (some (ownL (ds.set m d)))))
      | none => .bad
    | _ => .bad
  | none => .bad := rfl
theorem fVar_a (i : Nat) (e : En) : fVar i e = match e[i]? with
  | some (some d) => if isOwn d = true then .bad else .ok d
  | _ => .bad := rfl
theorem fC_a (d : D) (e0 : En) : fC d e0 = .ok d := rfl
theorem f1_a (o : D → T D) (a : En → T D) (e : En) : f1 o a e = (a e).bind o := rfl
theorem f2_a (o : D → D → T D) (a b : En → T D) (e : En) : f2 o a b e = (a e).bind fun x => (b e).bind fun y => o x y := rfl
theorem fB_a (f : En → T D) (e : En) : fB f e = (f e).bind asB := rfl
theorem fTru_a (f : En → T D) (e : En) : fTru f e = (f e).bind oTru := rfl
theorem bNot_a (f : En → T Bool) (e : En) : bNot f e = (f e).bind fun b => .ok (!b) := rfl
theorem bAnd_a (f k : En → T Bool) (e : En) : bAnd f k e = (f e).bind fun b => if b = true then k e else .ok false := rfl
theorem bOr_a (f k : En → T Bool) (e : En) : bOr f k e = (f e).bind fun b => if b = true then .ok true else k e := rfl
theorem bYes_a  (e0 : En) : bYes  e0 = .ok true := rfl
theorem fNot_a (f : En → T D) (e : En) : fNot f e = (f e).bind fun d => (asB d).bind fun b => .ok (.bool (!b)) := rfl
theorem fAnd_a (f k : En → T D) (e : En) : fAnd f k e = (f e).bind fun d => (asB d).bind fun b => if b = true then k e else .ok (.bool false) := rfl
theorem fOr_a (f k : En → T D) (e : En) : fOr f k e = (f e).bind fun d => (asB d).bind fun b => if b = true then .ok (.bool true) else k e := rfl
theorem fIf_a (c : En → T Bool) (a b : En → T D) (e : En) : fIf c a b e = (c e).bind fun k => if k = true then a e else b e := rfl
theorem aNil_a  (e0 : En) : aNil  e0 = .ok [] := rfl
theorem aCons_a (f : En → T D) (k : En → T (List D)) (e : En) : aCons f k e = (f e).bind fun d => (k e).bind fun ds => .ok (d :: ds) := rfl
theorem fTup_a (k : En → T (List D)) (e : En) : fTup k e = (k e).bind mkT := rfl
theorem fLst_a (k : En → T (List D)) (e : En) : fLst k e = (k e).bind mkL := rfl
theorem fCall_a (F : List D → T D) (fa : En → T (List D)) (en : En) : fCall F fa en = (fa en).bind fun ds => noX (F ds) := rfl
theorem oCh_a (o o' : D → D → T D) (a b c : En → T D) (e : En) : oCh o o' a b c e = (a e).bind fun x => (b e).bind fun y => (o x y).bind fun z => (asB z).bind fun k => if k = true then (c e).bind fun w => o' y w else .ok (.bool false) := rfl
theorem iSeq_a (f : En → T D) (e : En) : iSeq f e = (f e).bind dSeq := rfl
theorem iRg_a (c : List D → T (List D)) (k : En → T (List D)) (e : En) : iRg c k e = (k e).bind c := rfl
theorem iOf_a (o : D → T (List D)) (f : En → T D) (e : En) : iOf o f e = (f e).bind o := rfl
theorem fLc_a (fi : En → T (List D)) (gt : D → En → T En) (c : En → T Bool) (f : En → T D) (vs : List Nat) (e : En) : fLc fi gt c f vs e = (fi e).bind fun ds => (lcL gt c f (wipeE e vs) ds).bind fun ys => .ok (.list ys) := rfl
theorem fSl_a (f : En → T D) (lo hi : En → T (Option Int)) (e : En) : fSl f lo hi e = (f e).bind fun d => (lo e).bind fun l => (hi e).bind fun h => oSl d l h := rfl
theorem fo0_a  (e0 : En) : fo0  e0 = .ok none := rfl
theorem fo1_a (f : En → T D) (e : En) : fo1 f e = (f e).bind asI := rfl
theorem fTupRg_a (f : En → T D) (e : En) : fTupRg f e = (f e).bind fun d => (dRg1 [d]).bind fun ds => .ok (.tuple ds) := rfl
theorem fLstRg_a (f : En → T D) (e : En) : fLstRg f e = (f e).bind fun d => (dRg1 [d]).bind fun ds => .ok (.list ds) := rfl
theorem fLenSet_a (f : En → T D) (e : En) : fLenSet f e = (f e).bind fun d => (asIs d).bind fun ns => .ok (.int ((sortU ns).length : Nat)) := rfl
theorem fSortSet_a (f : En → T D) (e : En) : fSortSet f e = (f e).bind fun d => (asIs d).bind fun ns => if (sortU ns).length < 64 then .ok (.list ((sortU ns).map .int)) else .bad := rfl
theorem nLst_a (k : En → T (List D)) (e : En) : nLst k e = (k e).bind fun ds => if ds.length ≤ sizeLine then .ok ds else .bad := rfl
theorem nLc_a (fi : En → T (List D)) (gt : D → En → T En) (c : En → T Bool) (f : En → T D) (vs : List Nat) (e : En) : nLc fi gt c f vs e = (fi e).bind fun ds => lcL gt c f (wipeE e vs) ds := rfl
theorem fSIn_a (neg : Bool) (f : En → T D) (i : Nat) (e : En) : fSIn neg f i e = match setAt e i with
  | some ns => (f e).bind fun d => match d with
    | .int k => .ok (.bool (if neg then !decide (k ∈ ns) else decide (k ∈ ns)))
    | _ => .bad
  | none => .bad := rfl
theorem fSSort_a (i : Nat) (e : En) : fSSort i e = match setAt e i with
  | some ns => if ns.length < 64 then .ok (.list (ns.map .int)) else .bad
  | none => .bad := rfl
theorem fSLen_a (i : Nat) (e : En) : fSLen i e = match setAt e i with
  | some ns => if ns.length ≤ 100000 then .ok (.int (ns.length : Nat)) else .bad
  | none => .bad := rfl
theorem fLLen_a (i : Nat) (e : En) : fLLen i e = match lstAt e i with
  | some ds => .ok (.int (ds.length : Nat))
  | none => .bad := rfl
theorem fLTup_a (i : Nat) (e : En) : fLTup i e = match lstAt e i with
  | some ds => .ok (.tuple ds)
  | none => .bad := rfl
theorem fLIx_a (i : Nat) (f : En → T D) (e : En) : fLIx i f e = match lstAt e i with
  | some ds => (f e).bind fun k => oIx (.list ds) k
  | none => .bad := rfl
theorem fG1_a (kk : List D → T D) (fi : En → T (List D)) (tst : List D → En → Option Bool) (elt : List D → En → Option D) (e : En) : fG1 kk fi tst elt e = (fi e).bind fun xs => match genL tst elt e (xs.map fun x => [x]) with
  | some ys => kk ys
  | none => .bad := rfl
theorem fG2_a (kk : List D → T D) (fi : En → T (List (D × D))) (tst : List D → En → Option Bool) (elt : List D → En → Option D) (e : En) : fG2 kk fi tst elt e = (fi e).bind fun xs => match genL tst elt e (xs.map fun x => [x.1, x.2]) with
  | some ys => kk ys
  | none => .bad := rfl
theorem iPrs_a (f : En → T D) (e : En) : iPrs f e = (f e).bind fun d => match d with
  | .tuple ds => match prOf ds with
    | some ps => .ok ps
    | none => .bad
  | _ => .bad := rfl
theorem iEnG_a (k : En → T (List D)) (e : En) : iEnG k e = (k e).bind fun ds => match ds with
  | [.tuple ds] => .ok (ds.zipIdx.map fun p => (.int (p.2 : Nat), p.1))
  | _ => .bad := rfl
end PL
set_option Elab.async false
set_option linter.all false
set_option maxRecDepth 100000
set_option maxHeartbeats 4000000
namespace PG
open PySem L2 PL
local macro_rules | `(tactic| walk_at "gen") => `(tactic| simp (decide := false) (implicitDefEqProofs := false) only [gYes, gBv, gIn, gLoc, gFree, gEq, gAnd, gIsT, gInt, tyD, isOwn, flatD, all_flat, any_eqv, Function.comp_apply, List.getElem?_cons_zero, List.getElem?_cons_succ, Option.bind_some, Option.map_some, Bool.and_self, if_true, if_false, Bool.false_eq_true, reduceIte, decide_true, Bool.and_true, Bool.true_and])
local macro_rules | `(tactic| walk_at "ev") => `(tactic| simp (decide := false) (implicitDefEqProofs := false) only [fnD, runD, startE, endD, sSq, sqK, sIf, sSet, sAsg, sRet, sDrop, sNx, sBad, sFor, fVar, fC, f1, f2, fB, fTru, bNot, bAnd, bOr, fNot, fAnd, fOr, fIf, aNil, aCons, fTup, fLst, fCall, noX, oCh, asB, oTru, oIsT, tyD, oLen, oInt, oTupOf, oListOf, gN, gT, gsC, gsN, iSeq, dSeq, iRg, oIx, isOwn, T.ok_bind, T.bad_bind, T.exc_bind, T.draw_bind,
  List.length_cons, List.length_nil, List.map_cons, List.map_nil, List.length_map, List.length_replicate, Nat.reduceAdd, Nat.reduceSub, Nat.sub_self, List.replicate_zero, List.append_nil, List.cons_append, List.nil_append, List.replicate_succ, List.getElem?_cons_zero, List.getElem?_cons_succ, List.set_cons_zero, List.set_cons_succ, if_true, if_false, Bool.false_eq_true, Bool.not_true, Bool.not_false, reduceIte, reduceCtorEq, decide_true, decide_false, Bool.true_and, Bool.and_true, Bool.false_and, Bool.and_false, Bool.or_true, Bool.or_false, Bool.true_or, Bool.false_or, eq_self, cast0, cast1, cast2, cast3, cast4, cast5, oLe_int, oLt_int, oGt_int, oGe_int, oAdd_int, oSub_int, oEq_int, oNe_int, oIn_tup, oIn_lst, bool_and, bool_or, t_and, t_or, oLe_tup, oLt_tup])
theorem is_integer_int (v a b : Int) : d_is_integer [.int v, .int a, .int b] = .ok (.bool (decide (a ≤ v) && decide (v ≤ b))) := by
  unfold d_is_integer t_is_integer
  walk_at "ev"
theorem is_tuple_of_tup (ds : List D) (n : Int) : d_is_tuple_of [.tuple ds, .int n] = .ok (.bool (decide ((ds.length : Int) = n))) := by
  unfold d_is_tuple_of t_is_tuple_of
  walk_at "ev"
/-- a lot: ascending, each below m -/
def lotB (m : Int) : Int → List Int → Bool
  | _, [] => true
  | l, x :: xs => decide (l ≤ x) && decide (x ≤ m - 1) && lotB m (x + 1) xs
theorem is_lot_go (m : Int) (w : D) (xs : List Int) : ∀ (l : Int) (u : Option D), ∃ (l' : Int) (u' : Option D), forL (gN 3) (sSq (sIf (bNot (fTru (fCall d_is_integer (aCons (fVar 3) (aCons (fVar 2) (aCons (f2 oSub (fVar 0) (fC (.int 1))) aNil)))))) (sRet (fC (.bool false))) sNx) (sSet 2 (f2 oAdd (fVar 3) (fC (.int 1))))) (xs.map .int) [some (.int m), some w, some (.int l), u] =
    if lotB m l xs = true then .ok (.nx [some (.int m), some w, some (.int l'), u']) else .ok (.rt (.bool false)) := by
  induction xs with
  | nil => exact fun l u => ⟨l, u, rfl⟩
  | cons x xs ih =>
    intro l u
    obtain ⟨l', u', h⟩ := ih (x + 1) (some (.int x))
    refine ⟨l', u', ?_⟩
    rw [List.map_cons, forL]
    walk_at "ev"
    rw [is_integer_int]
    walk_at "ev"
    unfold lotB
    cases decide (l ≤ x) && decide (x ≤ m - 1) with
    | true => walk_at "ev"; exact h
    | false => walk_at "ev"
theorem is_lot_eI (m : Int) (xs : List Int) : d_is_lot [.int m, eI xs] = .ok (.bool (lotB m 0 xs)) := by
  unfold d_is_lot t_is_lot
  walk_at "ev"
  obtain ⟨l', u', h⟩ := is_lot_go m (eI xs) xs 0 none
  rw [h]
  cases lotB m 0 xs with
  | true => walk_at "ev"
  | false => walk_at "ev"
theorem lies_in_eI (xs ys : List Int) : d_lies_in [eI xs, eI ys] = .ok (.bool (xs.all fun x => decide (x ∈ ys))) := by
  unfold d_lies_in t_lies_in fG1
  walk_at "ev"
  rw [List.map_map, genL_ok (p := fun _ => true) (y := fun x => .bool (decide (x ∈ ys)))]
  · walk_at "ev"
    rw [show (xs.filter fun _ => true) = xs by simp, mkAll_map]
    walk_at "ev"
  · intro x hx
    walk_at "gen"
    simp
theorem meets_eI (xs ys : List Int) : d_meets [eI xs, eI ys] = .ok (.bool (xs.any fun x => decide (x ∈ ys))) := by
  unfold d_meets t_meets fG1
  walk_at "ev"
  rw [List.map_map, genL_ok (p := fun _ => true) (y := fun x => .bool (decide (x ∈ ys)))]
  · walk_at "ev"
    rw [show (xs.filter fun _ => true) = xs by simp, mkAny_map]
    walk_at "ev"
  · intro x hx
    walk_at "gen"
    simp
theorem lot_without_eI (xs ys : List Int) (h : xs.length ≤ 1000000) : d_lot_without [eI xs, eI ys] = .ok (eI (xs.filter fun x => !decide (x ∈ ys))) := by
  unfold d_lot_without t_lot_without fG1
  walk_at "ev"
  rw [List.map_map, genL_ok (p := fun x => !decide (x ∈ ys)) (y := fun x => .int x)]
  · walk_at "ev"
    rw [mkT_ok _ (by have := List.length_filter_le (fun x => !decide (x ∈ ys)) xs; simp; omega)]
    walk_at "ev"
  · intro x hx
    walk_at "gen"
    simp
/-- the ints below m -/
def rng (m : Nat) : List Int := (List.range m).map fun i : Nat => (i : Int)
theorem rgD_rng (m : Nat) : rgD 0 (m : Int) = (rng m).map .int := by
  simp [rgD, rng, Function.comp_def]
theorem rng_len (m : Nat) : (rng m).length = m := by simp [rng]
theorem mem_rng {m : Nat} {x : Int} : x ∈ rng m ↔ 0 ≤ x ∧ x < m := by
  simp only [rng, List.mem_map, List.mem_range]
  constructor
  · rintro ⟨i, hi, rfl⟩; omega
  · intro h; exact ⟨x.toNat, by omega, by omega⟩
theorem rng_asc (m : Nat) : (rng m).Pairwise (· < ·) := by
  unfold rng
  rw [List.pairwise_map]
  exact List.pairwise_lt_range.imp fun h => by omega
theorem all_without_eI (m : Nat) (hm : m ≤ 1000000) (ys : List Int) : d_all_without [.int m, eI ys] = .ok (eI ((rng m).filter fun x => !decide (x ∈ ys))) := by
  unfold d_all_without t_all_without fG1
  walk_at "ev"
  have h0 : dRg0 [PyData.int (m : Int)] = .ok ((rng m).map .int) := by
    simp only [dRg0]
    rw [if_pos (by simp; omega), rgD_rng]
  rw [h0]
  walk_at "ev"
  rw [List.map_map, genL_ok (p := fun x => !decide (x ∈ ys)) (y := fun x => .int x)]
  · walk_at "ev"
    rw [mkT_ok _ (by have := List.length_filter_le (fun x => !decide (x ∈ ys)) (rng m); rw [rng_len] at this; simp; omega)]
    walk_at "ev"
  · intro x hx
    walk_at "gen"
    simp
theorem together_eI (xs ys : List Int) (h : xs.length + ys.length < 64) : d_together [eI xs, eI ys] = .ok (eI (sortU (xs ++ ys))) := by
  have hl : (sortU (xs ++ ys)).length ≤ (xs ++ ys).length := (asc_nodup (sortU_asc _)).length_le_of_subset fun k hk => (mem_sortU k _).mp hk
  rw [List.length_append] at hl
  unfold d_together t_together fSortSet
  walk_at "ev"
  rw [oAdd_tup _ _ (by simp; omega)]
  walk_at "ev"
  rw [← List.map_append]
  simp only [asIs, intsOf_map, List.length_append]
  rw [if_pos (by omega)]
  walk_at "ev"
  rw [if_pos (by omega)]
  walk_at "ev"
end PG
set_option Elab.async false
set_option linter.all false
set_option maxRecDepth 100000
set_option maxHeartbeats 4000000
namespace PG
open PySem L2 PL
def prL (ps : List (Int × Int)) : List (List Int) := ps.map fun p => [p.1, p.2]
/-! ### what leads, by one pass backward -/
def leadL (lot goal : List Int) : List (Int × Int) → List Int
  | [] => goal
  | p :: ps => if p.1 ∈ lot ∧ p.2 ∈ leadL lot goal ps then (if p.1 ∈ leadL lot goal ps then leadL lot goal ps else p.1 :: leadL lot goal ps) else leadL lot goal ps
theorem leadL_cons (lot goal : List Int) (p : Int × Int) (ps : List (Int × Int)) : leadL lot goal (p :: ps) = if p.1 ∈ lot ∧ p.2 ∈ leadL lot goal ps then (if p.1 ∈ leadL lot goal ps then leadL lot goal ps else p.1 :: leadL lot goal ps) else leadL lot goal ps := rfl
theorem leadL_nodup {lot goal : List Int} (hg : goal.Nodup) : ∀ ps, (leadL lot goal ps).Nodup
  | [] => hg
  | p :: ps => by
    have ih := leadL_nodup (lot := lot) hg ps
    unfold leadL
    split
    · split
      · exact ih
      · rename_i h
        exact List.nodup_cons.mpr ⟨h, ih⟩
    · exact ih
/-! ### rows of arrows -/
inductive Lead (ps : List (Int × Int)) (lot goal : List Int) : Int → Prop
  | base {x} : x ∈ goal → Lead ps lot goal x
  | step {x y} : (x, y) ∈ ps → x ∈ lot → Lead ps lot goal y → Lead ps lot goal x
inductive Com (ps : List (Int × Int)) (lot goal : List Int) : Int → Prop
  | base {x} : x ∈ goal → Com ps lot goal x
  | step {x y} : (x, y) ∈ ps → y ∈ lot → Com ps lot goal y → Com ps lot goal x
theorem Lead.more {ps ps' : List (Int × Int)} {lot lot' goal goal' : List Int} (h1 : ∀ p ∈ ps, p ∈ ps') (h2 : ∀ x ∈ lot, x ∈ lot') (h3 : ∀ x ∈ goal, x ∈ goal') {x : Int} (h : Lead ps lot goal x) : Lead ps' lot' goal' x := by
  induction h with
  | base h => exact .base (h3 _ h)
  | step a b _ ih => exact .step (h1 _ a) (h2 _ b) ih
theorem Lead.com {ps : List (Int × Int)} {lot goal : List Int} (h3 : ∀ x ∈ goal, x ∈ lot) {x : Int} (h : Lead ps lot goal x) : x ∈ lot ∧ Com ps lot goal x := by
  induction h with
  | base h => exact ⟨h3 _ h, .base h⟩
  | step a b _ ih => exact ⟨b, .step a ih.1 ih.2⟩
theorem Com.lead {ps : List (Int × Int)} {lot goal : List Int} {x : Int} (h : Com ps lot goal x) (hx : x ∈ lot) : Lead ps lot goal x := by
  induction h with
  | base h => exact .base h
  | step a b _ ih => exact .step a hx (ih b)
theorem lead_iff {ps : List (Int × Int)} {lot goal : List Int} (h3 : ∀ x ∈ goal, x ∈ lot) {x : Int} : Lead ps lot goal x ↔ x ∈ lot ∧ Com ps lot goal x := ⟨fun h => h.com h3, fun h => h.2.lead h.1⟩
theorem mem_leadL {lot goal : List Int} : ∀ {ps : List (Int × Int)}, (prL ps).Pairwise (· < ·) → (∀ p ∈ ps, p.1 < p.2) → ∀ x, x ∈ leadL lot goal ps ↔ Lead ps lot goal x
  | [], _, _, x => ⟨fun h => .base h, fun h => by
    cases h with
    | base h => exact h
    | step a _ _ => cases a⟩
  | p :: ps, hp, hlt, x => by
    have hp' := List.pairwise_cons.mp (show ([p.1, p.2] :: prL ps).Pairwise (· < ·) from hp)
    have ih := mem_leadL (lot := lot) (goal := goal) hp'.2 fun q hq => hlt q (List.mem_cons_of_mem _ hq)
    have plt := hlt p List.mem_cons_self
    have sub : ∀ y, y ∈ leadL lot goal ps → y ∈ leadL lot goal (p :: ps) := fun y hy => by
      rw [leadL_cons]
      split
      · split
        · exact hy
        · exact List.mem_cons_of_mem _ hy
      · exact hy
    have inv : ∀ y, y ∈ leadL lot goal (p :: ps) → y ∈ leadL lot goal ps ∨ (y = p.1 ∧ p.1 ∈ lot ∧ p.2 ∈ leadL lot goal ps) := fun y hy => by
      rw [leadL_cons] at hy
      split at hy
      · rename_i h
        split at hy
        · exact .inl hy
        · rcases List.mem_cons.mp hy with z | z
          · exact .inr ⟨z, h⟩
          · exact .inl z
      · exact .inl hy
    constructor
    · intro hx
      rcases inv x hx with h | ⟨rfl, h1, h2⟩
      · exact ((ih x).mp h).more (fun q hq => List.mem_cons_of_mem _ hq) (fun _ z => z) (fun _ z => z)
      · exact .step (y := p.2) List.mem_cons_self h1 (((ih _).mp h2).more (fun q hq => List.mem_cons_of_mem _ hq) (fun _ z => z) (fun _ z => z))
    · intro hx
      induction hx with
      | base h => exact sub _ ((ih _).mpr (.base h))
      | @step a b hab ha _ ihb =>
        rcases List.mem_cons.mp hab with z | z
        · subst z
          rcases inv _ ihb with h | ⟨h, _⟩
          · rw [leadL_cons, if_pos ⟨ha, h⟩]
            split
            · assumption
            · exact List.mem_cons_self
          · have h' : b = a := h
            have plt' : a < b := plt
            omega
        · rcases inv _ ihb with h | ⟨h, _⟩
          · exact sub _ ((ih _).mpr (.step z ha ((ih _).mp h)))
          · exfalso
            have hm : [a, b] ∈ prL ps := List.mem_map.mpr ⟨(a, b), z, rfl⟩
            have hlt2 := hp'.1 _ hm
            have hab2 := hlt (a, b) (List.mem_cons_of_mem _ z)
            have hab3 : a < b := hab2
            rcases List.cons_lt_cons_iff.mp hlt2 with y | ⟨y, _⟩
            · omega
            · omega
theorem lexAt_shift {e r : Nat → Bool} {z : Bool} : ∀ (k i : Nat), Ob.lexAt e r z (i + 1) k = Ob.lexAt (fun j => e (j + 1)) (fun j => r (j + 1)) z i k
  | 0, _ => rfl
  | k + 1, i => by
    rw [Ob.lexAt_succ, Ob.lexAt_succ, lexAt_shift k (i + 1)]
theorem le_false : ∀ (ns ms : List Int), ms < ns → Ob.lexAt (fun j => decide (ns.getD j 0 = ms.getD j 0)) (fun j => decide (ns.getD j 0 ≤ ms.getD j 0)) (decide (ns.length ≤ ms.length)) 0 (min ns.length ms.length) = false
  | [], ms, h => by cases ms <;> simp at h
  | y :: ys, [], _ => by
    show decide (ys.length + 1 ≤ 0) = false
    simp
  | y :: ys, x :: xs, h => by
    have hm : min (y :: ys).length (x :: xs).length = min ys.length xs.length + 1 := by simp [Nat.succ_min_succ]
    rw [hm, Ob.lexAt_succ]
    rcases List.cons_lt_cons_iff.mp h with h1 | ⟨rfl, h1⟩
    · have e0 : decide ((y :: ys).getD 0 0 = (x :: xs).getD 0 0) = false := decide_eq_false (by show ¬ y = x; omega)
      have r0 : decide ((y :: ys).getD 0 0 ≤ (x :: xs).getD 0 0) = false := decide_eq_false (by show ¬ y ≤ x; omega)
      rw [e0, if_neg Bool.false_ne_true, r0]
    · have e0 : decide ((x :: ys).getD 0 0 = (x :: xs).getD 0 0) = true := decide_eq_true rfl
      rw [e0, if_pos rfl, lexAt_shift]
      have ih := le_false ys xs h1
      have hl : decide ((x :: ys).length ≤ (x :: xs).length) = decide (ys.length ≤ xs.length) := by simp
      rw [hl]
      exact ih

end PG
set_option Elab.async false
set_option linter.all false
set_option maxRecDepth 100000
set_option maxHeartbeats 4000000
namespace PG
open PySem L2 PL
local macro_rules | `(tactic| walk_at "gen") => `(tactic| simp (decide := false) (implicitDefEqProofs := false) only [gYes, gBv, gIn, gLoc, gFree, gEq, gAnd, gIsT, gInt, tyD, isOwn, flatD, all_flat, any_eqv, Function.comp_apply, List.getElem?_cons_zero, List.getElem?_cons_succ, Option.bind_some, Option.map_some, Bool.and_self, if_true, if_false, Bool.false_eq_true, reduceIte, decide_true, Bool.and_true, Bool.true_and])
local macro_rules | `(tactic| walk_at "ev") => `(tactic| simp (decide := false) (implicitDefEqProofs := false) only [fnD, runD, startE, endD, sSq, sqK, sIf, sSet, sAsg, sRet, sDrop, sNx, sBad, sFor, fVar, fC, f1, f2, fB, fTru, bNot, bAnd, bOr, fNot, fAnd, fOr, fIf, aNil, aCons, fTup, fLst, fCall, noX, oCh, asB, oTru, oIsT, tyD, oLen, oInt, oTupOf, oListOf, gN, gT, gsC, gsN, iSeq, dSeq, iRg, oIx, isOwn, T.ok_bind, T.bad_bind, T.exc_bind, T.draw_bind,
  List.length_cons, List.length_nil, List.map_cons, List.map_nil, List.length_map, List.length_replicate, Nat.reduceAdd, Nat.reduceSub, Nat.sub_self, List.replicate_zero, List.append_nil, List.cons_append, List.nil_append, List.replicate_succ, List.getElem?_cons_zero, List.getElem?_cons_succ, List.set_cons_zero, List.set_cons_succ, if_true, if_false, Bool.false_eq_true, Bool.not_true, Bool.not_false, reduceIte, reduceCtorEq, decide_true, decide_false, Bool.true_and, Bool.and_true, Bool.false_and, Bool.and_false, Bool.or_true, Bool.or_false, Bool.true_or, Bool.false_or, eq_self, cast0, cast1, cast2, cast3, cast4, cast5, oLe_int, oLt_int, oGt_int, oGe_int, oAdd_int, oSub_int, oEq_int, oNe_int, oIn_tup, oIn_lst, bool_and, bool_or, t_and, t_or, oLe_tup, oLt_tup])

theorem leI_false {ns ms : List Int} (h : ms < ns) : leI ns ms = false := le_false ns ms h
abbrev eP (ps : List (Int × Int)) : D := .tuple (ps.map fun p => eI [p.1, p.2])
abbrev eC (ca : List (List Int)) : D := .tuple (ca.map eI)
abbrev eD (m : Nat) (ps : List (Int × Int)) (ca : List (List Int)) : D := .tuple [.int m, eP ps, eC ca]
structure Dr (m : Nat) (ps : List (Int × Int)) (ca : List (List Int)) : Prop where
  m1 : 1 ≤ m
  m10 : m ≤ 10
  pb : ∀ p ∈ ps, 0 ≤ p.1 ∧ p.1 < p.2 ∧ p.2 < m
  po : (prL ps).Pairwise (· < ·)
  cb : ∀ c ∈ ca, lotB m 0 c = true ∧ 2 ≤ c.length
  co : ca.Pairwise (· < ·)
  cl : ca.length ≤ 20
/-- the rows of a drawing: each behind the one ahead -/
theorem need_arrows_go (m : Nat) (w : D) (ps : List (Int × Int)) : ∀ (k : Nat) (ah : List Int) (u3 u4 : Option D), (∀ p ∈ ps, 0 ≤ p.1 ∧ p.1 < p.2 ∧ p.2 < m) → (prL ps).Pairwise (· < ·) → (∀ p ∈ prL ps, ah < p) →
    ∃ r, forL (gT 2 (gsC (gN 3) (gsC (gN 4) gsN))) (sSq (sIf (bOr (bNot (fTru (fCall d_is_lot (aCons (fVar 0) (aCons (fVar 4) aNil))))) (bOr (fB (f2 oNe (f1 oLen (fVar 4)) (fC (.int 2)))) (fB (f2 oLe (fVar 4) (fVar 2))))) sBad sNx) (sSet 2 (fVar 4)))
      ((ps.zipIdx k).map fun p => .tuple [.int (p.2 : Nat), eI [p.1.1, p.1.2]]) [some (.int m), some w, some (eI ah), u3, u4] = .ok (.nx r) := by
  induction ps with
  | nil => exact fun k ah u3 u4 _ _ _ => ⟨_, rfl⟩
  | cons p ps ih =>
    intro k ah u3 u4 hb ho hah
    have ho' := List.pairwise_cons.mp (show ([p.1, p.2] :: prL ps).Pairwise (· < ·) from ho)
    obtain ⟨r, h⟩ := ih (k + 1) [p.1, p.2] (some (.int k)) (some (eI [p.1, p.2])) (fun q hq => hb q (List.mem_cons_of_mem _ hq)) ho'.2 ho'.1
    refine ⟨r, ?_⟩
    rw [List.zipIdx_cons, List.map_cons, forL]
    have hp := hb p List.mem_cons_self
    have hl : lotB (m : Int) 0 [p.1, p.2] = true := by simp [lotB]; omega
    have hle : leI [p.1, p.2] ah = false := leI_false (hah _ (List.mem_cons_self (a := [p.1, p.2]) (l := prL ps)))
    walk_at "ev"
    rw [is_lot_eI, hl]
    walk_at "ev"
    simp only [hle]
    walk_at "ev"
    exact h
theorem need_arrows_ok {m : Nat} {ps : List (Int × Int)} (hb : ∀ p ∈ ps, 0 ≤ p.1 ∧ p.1 < p.2 ∧ p.2 < m) (ho : (prL ps).Pairwise (· < ·)) : d_uneed_arrows [.int m, eP ps] = .ok .none := by
  unfold d_uneed_arrows t_uneed_arrows
  walk_at "ev"
  rw [mkT_ok [] (by simp)]
  walk_at "ev"
  simp only [dEnum]
  walk_at "ev"
  obtain ⟨r, h⟩ := need_arrows_go m (eP ps) ps 0 [] none none hb ho (fun p hp => by
    obtain ⟨q, _, rfl⟩ := List.mem_map.mp hp
    exact List.nil_lt_cons _ _)
  have e : enD (ps.map fun p => eI [p.1, p.2]) = (ps.zipIdx 0).map fun p => .tuple [.int (p.2 : Nat), eI [p.1.1, p.1.2]] := by
    simp only [enD, List.zipIdx_map, List.map_map]
    rfl
  have h : forL _ _ _ [some (.int m), some (eP ps), some (.tuple []), none, none] = .ok (.nx r) := h
  rw [e, h]
  walk_at "ev"
theorem need_causes_go (m : Nat) (w : D) (ca : List (List Int)) : ∀ (k : Nat) (ah : List Int) (u3 u4 : Option D), (∀ c ∈ ca, lotB m 0 c = true ∧ 2 ≤ c.length) → ca.Pairwise (· < ·) → (∀ c ∈ ca, ah < c) →
    ∃ r, forL (gT 2 (gsC (gN 3) (gsC (gN 4) gsN))) (sSq (sIf (bOr (bNot (fTru (fCall d_is_lot (aCons (fVar 0) (aCons (fVar 4) aNil))))) (bOr (fB (f2 oLt (f1 oLen (fVar 4)) (fC (.int 2)))) (fB (f2 oLe (fVar 4) (fVar 2))))) sBad sNx) (sSet 2 (fVar 4)))
      ((ca.zipIdx k).map fun p => .tuple [.int (p.2 : Nat), eI p.1]) [some (.int m), some w, some (eI ah), u3, u4] = .ok (.nx r) := by
  induction ca with
  | nil => exact fun k ah u3 u4 _ _ _ => ⟨_, rfl⟩
  | cons c ca ih =>
    intro k ah u3 u4 hb ho hah
    have ho' := List.pairwise_cons.mp ho
    obtain ⟨r, h⟩ := ih (k + 1) c (some (.int k)) (some (eI c)) (fun q hq => hb q (List.mem_cons_of_mem _ hq)) ho'.2 ho'.1
    refine ⟨r, ?_⟩
    rw [List.zipIdx_cons, List.map_cons, forL]
    have hp := hb c List.mem_cons_self
    have hle : leI c ah = false := leI_false (hah _ List.mem_cons_self)
    have h2 : decide ((c.length : Int) < 2) = false := decide_eq_false (by omega)
    walk_at "ev"
    rw [is_lot_eI, hp.1]
    walk_at "ev"
    simp only [hle, h2]
    walk_at "ev"
    exact h
theorem need_causes_ok {m : Nat} {ca : List (List Int)} (hb : ∀ c ∈ ca, lotB m 0 c = true ∧ 2 ≤ c.length) (ho : ca.Pairwise (· < ·)) (hl : ca.length ≤ 20) (hn : ∀ c ∈ ca, c ≠ []) : d_uneed_causes [.int m, eC ca] = .ok .none := by
  unfold d_uneed_causes t_uneed_causes
  have h20 : decide ((20 : Int) < (ca.length : Int)) = false := decide_eq_false (by omega)
  walk_at "ev"
  simp only [h20]
  walk_at "ev"
  rw [mkT_ok [] (by simp)]
  walk_at "ev"
  simp only [dEnum]
  walk_at "ev"
  obtain ⟨r, h⟩ := need_causes_go m (eC ca) ca 0 [] none none hb ho (fun c hc => by
    cases c with
    | nil => exact absurd rfl (hn _ hc)
    | cons x xs => exact List.nil_lt_cons _ _)
  have e : enD (ca.map eI) = (ca.zipIdx 0).map fun p => .tuple [.int (p.2 : Nat), eI p.1] := by
    simp only [enD, List.zipIdx_map, List.map_map]
    rfl
  have h : forL _ _ _ [some (.int m), some (eC ca), some (.tuple []), none, none] = .ok (.nx r) := h
  rw [e, h]
  walk_at "ev"
theorem need_drawing_ok {m : Nat} {ps : List (Int × Int)} {ca : List (List Int)} (h : Dr m ps ca) : d_need_drawing [eD m ps ca] = .ok (eD m ps ca) := by
  unfold d_need_drawing t_need_drawing
  have h1 : decide ((1 : Int) ≤ (m : Int)) = true := decide_eq_true (by have := h.m1; omega)
  have h2 : decide ((m : Int) ≤ 10) = true := decide_eq_true (by have := h.m10; omega)
  walk_at "ev"
  rw [is_tuple_of_tup]
  walk_at "ev"
  rw [is_integer_int]
  walk_at "ev"
  simp only [h1, h2]
  walk_at "ev"
  rw [need_arrows_ok h.pb h.po]
  walk_at "ev"
  rw [need_causes_ok h.cb h.co h.cl (fun c hc z => by have := (h.cb c hc).2; rw [z] at this; simp at this)]
  walk_at "ev"
end PG
set_option Elab.async false
set_option linter.all false
set_option maxRecDepth 100000
set_option maxHeartbeats 4000000
namespace PG
open PySem L2 PL
local macro_rules | `(tactic| walk_at "gen") => `(tactic| simp (decide := false) (implicitDefEqProofs := false) only [gYes, gBv, gIn, gLoc, gFree, gEq, gAnd, gIsT, gInt, tyD, isOwn, flatD, all_flat, any_eqv, Function.comp_apply, List.getElem?_cons_zero, List.getElem?_cons_succ, Option.bind_some, Option.map_some, Bool.and_self, if_true, if_false, Bool.false_eq_true, reduceIte, decide_true, Bool.and_true, Bool.true_and])
local macro_rules | `(tactic| walk_at "ev") => `(tactic| simp (decide := false) (implicitDefEqProofs := false) only [fnD, runD, startE, endD, sSq, sqK, sIf, sSet, sAsg, sRet, sDrop, sNx, sBad, sFor, sOwS, sSqR, sqR, sRel, relE, rel1, unown, oSAdd, fSIn, fSSort, iOf, dRev, fVar, fC, f1, f2, fB, fTru, bNot, bAnd, bOr, fNot, fAnd, fOr, fIf, aNil, aCons, fTup, fLst, fCall, noX, oCh, asB, oTru, oIsT, tyD, oLen, oInt, oTupOf, oListOf, gN, gT, gsC, gsN, iSeq, dSeq, iRg, oIx, isOwn, T.ok_bind, T.bad_bind, T.exc_bind, T.draw_bind,
  List.length_cons, List.length_nil, List.map_cons, List.map_nil, List.length_map, List.length_replicate, Nat.reduceAdd, Nat.reduceSub, Nat.sub_self, List.replicate_zero, List.append_nil, List.cons_append, List.nil_append, List.replicate_succ, List.getElem?_cons_zero, List.getElem?_cons_succ, List.set_cons_zero, List.set_cons_succ, if_true, if_false, Bool.false_eq_true, Bool.not_true, Bool.not_false, reduceIte, reduceCtorEq, decide_true, decide_false, Bool.true_and, Bool.and_true, Bool.false_and, Bool.and_false, Bool.or_true, Bool.or_false, Bool.true_or, Bool.false_or, eq_self, cast0, cast1, cast2, cast3, cast4, cast5, oLe_int, oLt_int, oGt_int, oGe_int, oAdd_int, oSub_int, oEq_int, oNe_int, oIn_tup, oIn_lst, bool_and, bool_or, t_and, t_or, oLe_tup, oLt_tup])

/-- what leads, as a set in order -/
def leadU (lot goal : List Int) : List (Int × Int) → List Int
  | [] => sortU goal
  | p :: ps => if p.1 ∈ lot ∧ p.2 ∈ leadU lot goal ps then insU p.1 (leadU lot goal ps) else leadU lot goal ps
theorem leadU_asc (lot goal : List Int) : ∀ ps, (leadU lot goal ps).Pairwise (· < ·)
  | [] => sortU_asc goal
  | p :: ps => by
    unfold leadU
    split
    · exact insU_asc _ (leadU_asc lot goal ps)
    · exact leadU_asc lot goal ps
theorem mem_leadU (lot goal : List Int) : ∀ ps x, x ∈ leadU lot goal ps ↔ x ∈ leadL lot goal ps
  | [], x => mem_sortU x goal
  | p :: ps, x => by
    have ih := mem_leadU lot goal ps
    rw [leadL_cons]
    unfold leadU
    simp only [ih p.2]
    split
    · rw [mem_insU, ih x]
      split
      · rename_i h
        constructor
        · rintro (rfl | h2)
          · exact h
          · exact h2
        · exact .inr
      · rw [List.mem_cons]
    · exact ih x
def lBody : En → T Fl := sIf (bAnd (fB (f2 (oIn false) (fVar 4) (fVar 1))) (fB (fSIn false (fVar 5) 3))) (oSAdd 3 (fVar 4)) sNx
theorem setAt3 {a b c : Option D} {ns : List Int} {r : En} : setAt (a :: b :: c :: some (ownS ns) :: r) 3 = some ns := by
  show intsOf (ns.map PyData.int) = some ns
  exact intsOf_map ns
theorem asc_bd : ∀ {xs : List Int} {l m : Int}, xs.Pairwise (· < ·) → (∀ x ∈ xs, l ≤ x ∧ x < m) → (xs.length : Int) ≤ max 0 (m - l)
  | [], _, _, _, _ => by simp; omega
  | x :: xs, l, m, ha, hb => by
    rw [List.pairwise_cons] at ha
    have h0 := hb x List.mem_cons_self
    have ih := asc_bd (l := x + 1) ha.2 fun y hy => ⟨by have := ha.1 y hy; omega, (hb y (List.mem_cons_of_mem _ hy)).2⟩
    simp only [List.length_cons]
    omega
def lStep (lot : List Int) (p : Int × Int) (s : List Int × Option D × Option D) : List Int × Option D × Option D := (if p.1 ∈ lot ∧ p.2 ∈ s.1 then insU p.1 s.1 else s.1, some (.int p.1), some (.int p.2))
theorem lead_turn (w0 w : D) (lot : List Int) (p : Int × Int) (s : List Int × Option D × Option D) (hl : s.1.length ≤ 4000) :
    (gT 2 (gsC (gN 4) (gsC (gN 5) gsN)) (eI [p.1, p.2]) [some w0, some (eI lot), some w, some (ownS s.1), s.2.1, s.2.2]).bind lBody = .ok (.nx [some w0, some (eI lot), some w, some (ownS (lStep lot p s).1), (lStep lot p s).2.1, (lStep lot p s).2.2]) := by
  obtain ⟨S, u4, u5⟩ := s
  have hs : ∀ (a b : Option D), setAt [some w0, some (eI lot), some w, some (ownS S), a, b] 3 = some S := fun a b => setAt3
  unfold lBody lStep
  simp (decide := false) (implicitDefEqProofs := false) only [gT, gsC, gN, gsN, List.map_cons, List.map_nil, List.length_cons, List.length_nil, Nat.reduceAdd, if_true, T.ok_bind, List.set_cons_succ, List.set_cons_zero, sIf, bAnd, fB, f2, fVar, List.getElem?_cons_succ, List.getElem?_cons_zero, isOwn, Bool.false_eq_true, if_false, oIn_tup, asB, fSIn, hs]
  by_cases h1 : p.1 ∈ lot
  · by_cases h2 : p.2 ∈ S
    · simp only [h1, h2, decide_true, if_true, T.ok_bind, and_self, oSAdd, hs, fVar, List.getElem?_cons_succ, List.getElem?_cons_zero, isOwn, Bool.false_eq_true, if_false]
      rw [if_pos hl]
      rfl
    · simp only [h1, h2, decide_true, decide_false, if_true, T.ok_bind, and_false, if_false, Bool.false_eq_true, sNx]
  · simp only [h1, decide_false, if_false, T.ok_bind, false_and, Bool.false_eq_true, sNx]
theorem leadU_fold (lot goal : List Int) : ∀ (ps : List (Int × Int)) (u v : Option D), (ps.foldr (lStep lot) (sortU goal, u, v)).1 = leadU lot goal ps
  | [], _, _ => rfl
  | p :: ps, u, v => by
    rw [List.foldr_cons]
    show (if p.1 ∈ lot ∧ p.2 ∈ (ps.foldr (lStep lot) (sortU goal, u, v)).1 then _ else _) = _
    rw [leadU_fold lot goal ps u v]
    rfl
theorem leading_in_ok {m : Nat} {ps : List (Int × Int)} {lot goal : List Int} (hm : m ≤ 10) (hl : ∀ x ∈ lot, 0 ≤ x ∧ x < m) (hg : ∀ x ∈ goal, 0 ≤ x ∧ x < m) (hgl : goal.length ≤ 100) : d_leading_in [eP ps, eI lot, eI goal] = .ok (eI (leadU lot goal ps)) := by
  have hu : ∀ x ∈ leadU lot goal ps, 0 ≤ x ∧ x < m := by
    intro x hx
    have hx := (mem_leadU lot goal ps x).mp hx
    clear hgl
    induction ps generalizing x with
    | nil => exact hg x hx
    | cons p ps ih =>
      rw [leadL_cons] at hx
      split at hx
      · rename_i h
        split at hx
        · exact ih x ((mem_leadU _ _ _ x).mpr hx) hx
        · rcases List.mem_cons.mp hx with rfl | hx
          · exact hl _ h.1
          · exact ih x ((mem_leadU _ _ _ x).mpr hx) hx
      · exact ih x ((mem_leadU _ _ _ x).mpr hx) hx
  have hlen := asc_bd (leadU_asc lot goal ps) hu
  unfold d_leading_in t_leading_in
  walk_at "ev"
  simp only [asIs, intsOf_map]
  rw [if_pos (by omega)]
  walk_at "ev"
  have key := forL_fold (gt := gT 2 (gsC (gN 4) (gsC (gN 5) gsN))) (b := lBody) (fun s : List Int × Option D × Option D => [some (eP ps), some (eI lot), some (eI goal), some (ownS s.1), s.2.1, s.2.2]) (fun p : Int × Int => eI [p.1, p.2]) (lStep lot)
    (fun s => s.1.Pairwise (· < ·) ∧ ∀ x ∈ s.1, 0 ≤ x ∧ x < m) ps.reverse (sortU goal, none, none) ⟨sortU_asc _, fun x hx => hg x ((mem_sortU x goal).mp hx)⟩ (fun p _ s hs => ?_)
  · rw [List.foldl_reverse, List.map_reverse] at key
    rw [show (fun (x : Int × Int) (y : List Int × Option D × Option D) => (fun s x => lStep lot x s) y x) = lStep lot from rfl] at key
    have e := leadU_fold lot goal ps none none
    unfold lBody at key
    rw [key, e]
    have hs : ∀ (a b : Option D), setAt [some (eP ps), some (eI lot), some (eI goal), some (ownS (leadU lot goal ps)), a, b] 3 = some (leadU lot goal ps) := fun a b => setAt3
    walk_at "ev"
    simp only [hs]
    rw [if_pos (by omega)]
    walk_at "ev"
  · have hlen := asc_bd hs.1 hs.2
    refine ⟨lead_turn _ _ lot p s (by omega), ?_⟩
    unfold lStep
    dsimp only
    split
    · rename_i h
      exact ⟨insU_asc _ hs.1, fun x hx => by
        rcases (mem_insU _ _ _).mp hx with rfl | hx
        · exact hl _ h.1
        · exact hs.2 x hx⟩
    · exact hs
end PG
set_option Elab.async false
set_option linter.all false
set_option maxRecDepth 100000
set_option maxHeartbeats 4000000
namespace PG
open PySem L2 PL
local macro_rules | `(tactic| walk_at "gen") => `(tactic| simp (decide := false) (implicitDefEqProofs := false) only [gYes, gBv, gIn, gLoc, gFree, gEq, gAnd, gIsT, gInt, tyD, isOwn, flatD, all_flat, any_eqv, Function.comp_apply, List.getElem?_cons_zero, List.getElem?_cons_succ, Option.bind_some, Option.map_some, Bool.and_self, if_true, if_false, Bool.false_eq_true, reduceIte, decide_true, Bool.and_true, Bool.true_and])
local macro_rules | `(tactic| walk_at "ev") => `(tactic| simp (decide := false) (implicitDefEqProofs := false) only [fnD, runD, startE, endD, sqK, sqR, relE, rel1, unown, noX, asB, asI, oTru, oIsT, tyD, oLen, oInt, oTupOf, oListOf, gN, gT, gsC, gsN, dSeq, dRev, isOwn, ↓sNx_a, ↓sSq_a, ↓sIf_a, ↓sSet_a, ↓sAsg_a, ↓sRet_a, ↓sRetN_a, ↓sDrop_a, ↓sBad_a, ↓sFor_a, ↓sBk_a, ↓sCt_a, ↓sPar_a, ↓sOwS_a, ↓sSqR_a, ↓sRel_a, ↓sOwL_a, ↓oSAdd_a, ↓oApp_a, ↓oSetI_a, ↓fVar_a, ↓fC_a, ↓f1_a, ↓f2_a, ↓fB_a, ↓fTru_a, ↓bNot_a, ↓bAnd_a, ↓bOr_a, ↓bYes_a, ↓fNot_a, ↓fAnd_a, ↓fOr_a, ↓fIf_a, ↓aNil_a, ↓aCons_a, ↓fTup_a, ↓fLst_a, ↓fCall_a, ↓oCh_a, ↓iSeq_a, ↓iRg_a, ↓iOf_a, ↓fLc_a, ↓fSl_a, ↓fo0_a, ↓fo1_a, ↓fTupRg_a, ↓fLstRg_a, ↓fLenSet_a, ↓fSortSet_a, ↓nLst_a, ↓nLc_a, ↓fSIn_a, ↓fSSort_a, ↓fSLen_a, ↓fLLen_a, ↓fLTup_a, ↓fLIx_a, ↓fG1_a, ↓fG2_a, ↓iPrs_a, ↓iEnG_a, T.ok_bind, T.bad_bind, T.exc_bind, T.draw_bind,
  List.length_cons, List.length_nil, List.map_cons, List.map_nil, List.length_map, List.length_replicate, Nat.reduceAdd, Nat.reduceSub, Nat.sub_self, List.replicate_zero, List.append_nil, List.cons_append, List.nil_append, List.replicate_succ, List.getElem?_cons_zero, List.getElem?_cons_succ, List.set_cons_zero, List.set_cons_succ, if_true, if_false, Bool.false_eq_true, Bool.not_true, Bool.not_false, reduceIte, reduceCtorEq, decide_true, decide_false, Bool.true_and, Bool.and_true, Bool.false_and, Bool.and_false, Bool.or_true, Bool.or_false, Bool.true_or, Bool.false_or, eq_self, cast0, cast1, cast2, cast3, cast4, cast5, oLe_int, oLt_int, oGt_int, oGe_int, oAdd_int, oSub_int, oEq_int, oNe_int, oIn_tup, oIn_lst, bool_and, bool_or, t_and, t_or, oLe_tup, oLt_tup, ixT0, ixL0, ixT1, ixL1, ixT2, ixL2, ixT3, ixL3, ixT4, ixL4, ixT5, ixL5, ixT6, ixL6, ixT7, ixL7])

/-- a lot of the things below m -/
structure Lot (m : Nat) (xs : List Int) : Prop where
  asc : xs.Pairwise (· < ·)
  bd : ∀ x ∈ xs, 0 ≤ x ∧ x < m
theorem Lot.len {m : Nat} {xs : List Int} (h : Lot m xs) : xs.length ≤ m := by
  have := asc_bd h.asc h.bd
  omega
theorem lotB_of {m : Int} : ∀ {xs : List Int} {l : Int}, xs.Pairwise (· < ·) → (∀ x ∈ xs, l ≤ x ∧ x < m) → lotB m l xs = true
  | [], _, _, _ => rfl
  | x :: xs, l, ha, hb => by
    rw [List.pairwise_cons] at ha
    have h0 := hb x List.mem_cons_self
    have ih := lotB_of (l := x + 1) ha.2 fun y hy => ⟨by have := ha.1 y hy; omega, (hb y (List.mem_cons_of_mem _ hy)).2⟩
    simp only [lotB, ih, Bool.and_true, Bool.and_eq_true, decide_eq_true_eq]
    omega
theorem Lot.b {m : Nat} {xs : List Int} (h : Lot m xs) : lotB m 0 xs = true := lotB_of h.asc h.bd
theorem goal_in_ok {m : Nat} {ps : List (Int × Int)} {ca : List (List Int)} {closed ends : List Int} (hm : m ≤ 10) (he : ∀ x ∈ ends, 0 ≤ x ∧ x < m) (hl : ends.length ≤ 100) :
    d_goal_in [eD m ps ca, eI closed, eI ends] = .ok (eI (leadU ((rng m).filter fun x => !decide (x ∈ closed)) ends ps)) := by
  unfold d_goal_in t_goal_in
  walk_at "ev"
  rw [all_without_eI m (by omega) closed]
  walk_at "ev"
  rw [leading_in_ok hm (fun x hx => by have := mem_rng.mp (List.mem_filter.mp hx).1; omega) he hl]
  walk_at "ev"
/-- a question -/
structure Qu (m : Nat) (ps : List (Int × Int)) (ca : List (List Int)) (tried set seen asked : List Int) : Prop where
  dr : Dr m ps ca
  t : Lot m tried
  h : Lot m set
  s : Lot m seen
  a : Lot m asked
  an : asked ≠ []
  th : ∀ x ∈ tried, x ∈ set
  sh : ∀ x ∈ seen, x ∉ set
  ah : ∀ x ∈ asked, x ∉ set
  as : ∀ x ∈ asked, x ∉ seen
abbrev eQ (m : Nat) (ps : List (Int × Int)) (ca : List (List Int)) (tried set seen asked : List Int) : D := .tuple [eD m ps ca, eI tried, eI set, eI seen, eI asked]
theorem need_question_ok {m : Nat} {ps : List (Int × Int)} {ca : List (List Int)} {tried set seen asked : List Int} (q : Qu m ps ca tried set seen asked) : d_need_question [eQ m ps ca tried set seen asked] = .ok (eQ m ps ca tried set seen asked) := by
  unfold d_need_question t_need_question
  walk_at "ev"
  rw [is_tuple_of_tup]
  walk_at "ev"
  rw [need_drawing_ok q.dr]
  walk_at "ev"
  rw [mkT_ok _ (by simp)]
  walk_at "ev"
  rw [forL]
  walk_at "ev"
  rw [is_lot_eI, q.t.b]
  walk_at "ev"
  rw [forL]
  walk_at "ev"
  rw [is_lot_eI, q.h.b]
  walk_at "ev"
  rw [forL]
  walk_at "ev"
  rw [is_lot_eI, q.s.b]
  walk_at "ev"
  rw [forL]
  walk_at "ev"
  rw [is_lot_eI, q.a.b]
  walk_at "ev"
  rw [forL]
  walk_at "ev"
  have h1 : (tried.all fun x => decide (x ∈ set)) = true := by simpa using q.th
  have h2 : (seen.any fun x => decide (x ∈ set)) = false := by simpa using q.sh
  have h3 : (asked.any fun x => decide (x ∈ set)) = false := by simpa using q.ah
  have h4 : (asked.any fun x => decide (x ∈ seen)) = false := by simpa using q.as
  have h5 : (asked.map PyData.int).isEmpty = false := by
    cases asked with
    | nil => exact absurd rfl q.an
    | cons _ _ => rfl
  simp only [h5]
  walk_at "ev"
  rw [lies_in_eI, h1]
  walk_at "ev"
  rw [meets_eI, h2]
  walk_at "ev"
  rw [meets_eI, h3]
  walk_at "ev"
  rw [meets_eI, h4]
  walk_at "ev"
theorem things_in_ok {m : Nat} {ps : List (Int × Int)} {ca : List (List Int)} {tried set seen asked : List Int} (q : Qu m ps ca tried set seen asked) : d_things_in [eQ m ps ca tried set seen asked] = .ok (eI (sortU (sortU (set ++ seen) ++ asked))) := by
  have l1 := q.h.len; have l2 := q.s.len; have l3 := q.a.len; have l4 := q.dr.m10
  have hl : (sortU (set ++ seen)).length ≤ (set ++ seen).length := (asc_nodup (sortU_asc _)).length_le_of_subset fun k hk => (mem_sortU k _).mp hk
  rw [List.length_append] at hl
  unfold d_things_in t_things_in
  walk_at "ev"
  rw [together_eI _ _ (by omega)]
  walk_at "ev"
  rw [together_eI _ _ (by omega)]
  walk_at "ev"
theorem things_of_ok {m : Nat} {ps : List (Int × Int)} {ca : List (List Int)} {tried set seen asked : List Int} (q : Qu m ps ca tried set seen asked) : d_things_of [eQ m ps ca tried set seen asked] = .ok (eI (sortU (sortU (set ++ seen) ++ asked))) := by
  unfold d_things_of t_things_of
  walk_at "ev"
  rw [need_question_ok q]
  walk_at "ev"
  rw [things_in_ok q]
  walk_at "ev"
theorem is_row_of_ok {lot value : List Int} (hn : value.Nodup) (hs : ∀ x ∈ value, x ∈ lot) (hl : value.length ≤ 1000) : d_is_row_of [eI lot, eI value] = .ok (.bool true) := by
  have h1 : decide ((lot.length : Int) < (value.length : Int)) = false := decide_eq_false (by have := hn.length_le_of_subset hs; omega)
  unfold d_is_row_of t_is_row_of fG1 fLenSet
  walk_at "ev"
  rw [h1]
  walk_at "ev"
  rw [List.map_map, genL_ok (p := fun _ => true) (y := fun x => .bool (decide (x ∈ lot)))]
  · walk_at "ev"
    rw [show (value.filter fun _ => true) = value by simp, mkAll_map]
    have h2 : (value.all fun x => decide (x ∈ lot)) = true := by simpa using hs
    walk_at "ev"
    simp only [h2]
    walk_at "ev"
    rw [asIs_ok _ hl]
    walk_at "ev"
    have : (sortU value).length = value.length := by
      have p : (sortU value).Perm value := (List.perm_ext_iff_of_nodup (asc_nodup (sortU_asc _)) hn).mpr fun k => mem_sortU k value
      exact p.length_eq
    rw [this]
    simp
  · intro x hx
    walk_at "gen"
    simp
theorem goal_behind_ok {m : Nat} {ps : List (Int × Int)} {ca : List (List Int)} {tried set seen asked moved : List Int} (q : Qu m ps ca tried set seen asked) (hm : moved.length ≤ 20) (hb : ∀ x ∈ moved, 0 ≤ x ∧ x < m) :
    d_goal_behind [eQ m ps ca tried set seen asked, eI moved] = .ok (eI (leadU ((rng m).filter fun x => !decide (x ∈ sortU (set ++ moved))) (sortU ((seen.filter fun x => !decide (x ∈ moved)) ++ asked)) ps)) := by
  have l1 := q.h.len; have l2 := q.s.len; have l3 := q.a.len; have l4 := q.dr.m10
  have hf := List.length_filter_le (fun x => !decide (x ∈ moved)) seen
  have hl : (sortU ((seen.filter fun x => !decide (x ∈ moved)) ++ asked)).length ≤ ((seen.filter fun x => !decide (x ∈ moved)) ++ asked).length := (asc_nodup (sortU_asc _)).length_le_of_subset fun k hk => (mem_sortU k _).mp hk
  rw [List.length_append] at hl
  unfold d_goal_behind t_goal_behind
  walk_at "ev"
  rw [together_eI _ _ (by omega), lot_without_eI _ _ (by omega)]
  walk_at "ev"
  rw [together_eI _ _ (by omega)]
  walk_at "ev"
  rw [goal_in_ok l4 (fun x hx => ?_) (by omega)]
  · walk_at "ev"
  · rcases List.mem_append.mp ((mem_sortU x _).mp hx) with h | h
    · exact q.s.bd x (List.mem_filter.mp h).1
    · exact q.a.bd x h
theorem goal_ok {m : Nat} {ps : List (Int × Int)} {ca : List (List Int)} {tried set seen asked moved : List Int} (q : Qu m ps ca tried set seen asked) (hn : moved.Nodup) (hs : ∀ x ∈ moved, x ∈ seen) :
    d_goal [eQ m ps ca tried set seen asked, eI moved] = .ok (eI (leadU ((rng m).filter fun x => !decide (x ∈ sortU (set ++ moved))) (sortU ((seen.filter fun x => !decide (x ∈ moved)) ++ asked)) ps)) := by
  have l2 := q.s.len; have l4 := q.dr.m10
  have hl := hn.length_le_of_subset hs
  unfold d_goal t_goal
  walk_at "ev"
  rw [need_question_ok q]
  walk_at "ev"
  rw [is_row_of_ok hn hs (by omega)]
  walk_at "ev"
  rw [goal_behind_ok q (by omega) fun x hx => q.s.bd x (hs x hx)]
  walk_at "ev"
end PG
set_option Elab.async false
set_option linter.all false
set_option maxRecDepth 100000
set_option maxHeartbeats 4000000
namespace PG
open PySem L2 PL
local macro_rules | `(tactic| walk_at "gen") => `(tactic| simp (decide := false) (implicitDefEqProofs := false) only [gYes, gBv, gIn, gLoc, gFree, gEq, gAnd, gIsT, gInt, tyD, isOwn, flatD, all_flat, any_eqv, Function.comp_apply, List.getElem?_cons_zero, List.getElem?_cons_succ, Option.bind_some, Option.map_some, Bool.and_self, if_true, if_false, Bool.false_eq_true, reduceIte, decide_true, Bool.and_true, Bool.true_and])
local macro_rules | `(tactic| walk_at "ev") => `(tactic| simp (decide := false) (implicitDefEqProofs := false) only [fnD, runD, startE, endD, sqK, sqR, relE, rel1, unown, noX, asB, asI, oTru, oIsT, tyD, oLen, oInt, oTupOf, oListOf, gN, gT, gsC, gsN, dSeq, dRev, isOwn, ↓sNx_a, ↓sSq_a, ↓sIf_a, ↓sSet_a, ↓sAsg_a, ↓sRet_a, ↓sRetN_a, ↓sDrop_a, ↓sBad_a, ↓sFor_a, ↓sBk_a, ↓sCt_a, ↓sPar_a, ↓sOwS_a, ↓sSqR_a, ↓sRel_a, ↓sOwL_a, ↓oSAdd_a, ↓oApp_a, ↓oSetI_a, ↓fVar_a, ↓fC_a, ↓f1_a, ↓f2_a, ↓fB_a, ↓fTru_a, ↓bNot_a, ↓bAnd_a, ↓bOr_a, ↓bYes_a, ↓fNot_a, ↓fAnd_a, ↓fOr_a, ↓fIf_a, ↓aNil_a, ↓aCons_a, ↓fTup_a, ↓fLst_a, ↓fCall_a, ↓oCh_a, ↓iSeq_a, ↓iRg_a, ↓iOf_a, ↓fLc_a, ↓fSl_a, ↓fo0_a, ↓fo1_a, ↓fTupRg_a, ↓fLstRg_a, ↓fLenSet_a, ↓fSortSet_a, ↓nLst_a, ↓nLc_a, ↓fSIn_a, ↓fSSort_a, ↓fSLen_a, ↓fLLen_a, ↓fLTup_a, ↓fLIx_a, ↓fG1_a, ↓fG2_a, ↓iPrs_a, ↓iEnG_a, T.ok_bind, T.bad_bind, T.exc_bind, T.draw_bind,
  List.length_cons, List.length_nil, List.map_cons, List.map_nil, List.length_map, List.length_replicate, Nat.reduceAdd, Nat.reduceSub, Nat.sub_self, List.replicate_zero, List.append_nil, List.cons_append, List.nil_append, List.replicate_succ, List.getElem?_cons_zero, List.getElem?_cons_succ, List.set_cons_zero, List.set_cons_succ, if_true, if_false, Bool.false_eq_true, Bool.not_true, Bool.not_false, reduceIte, reduceCtorEq, decide_true, decide_false, Bool.true_and, Bool.and_true, Bool.false_and, Bool.and_false, Bool.or_true, Bool.or_false, Bool.true_or, Bool.false_or, eq_self, cast0, cast1, cast2, cast3, cast4, cast5, oLe_int, oLt_int, oGt_int, oGe_int, oAdd_int, oSub_int, oEq_int, oNe_int, oIn_tup, oIn_lst, bool_and, bool_or, t_and, t_or, oLe_tup, oLt_tup, ixT0, ixL0, ixT1, ixL1, ixT2, ixL2, ixT3, ixL3, ixT4, ixL4, ixT5, ixL5, ixT6, ixL6, ixT7, ixL7])

/-! ### draws -/
theorem lcL_sub {α : Type} {gt : D → En → T En} {c : En → T Bool} {f : En → T D} {e : En} {E : Ex → Nat → Prop} (xe : α → D) (y : α → D) {L : Int} (h1 : 1 ≤ L) (h2 : L ≤ 1000000) : ∀ (xs : List α) (n : Nat) {Q : List D → Nat → Prop}, (∀ x ∈ xs, ∃ (e1 : En) (cond : Int → Bool), gt (xe x) e = .ok e1 ∧ c e1 = .draw L (fun r => .ok (cond r)) ∧ f e1 = .ok (y x)) → n + xs.length ≤ T.cap →
    (∀ zs : List α, zs.Sublist xs → Q (zs.map y) (n + xs.length)) → (lcL gt c f e (xs.map xe)).wp n Q E
  | [], n, Q, _, _, q => q [] (.refl _)
  | x :: xs, n, Q, h, hn, q => by
    obtain ⟨e1, cond, a1, a2, a3⟩ := h x List.mem_cons_self
    rw [List.length_cons] at hn
    rw [List.map_cons, lcL, a1, T.ok_bind, a2, T.draw_bind]
    refine ⟨by omega, h1, h2, fun r r0 r1 => ?_⟩
    dsimp only
    rw [T.ok_bind]
    have hx : ∀ z ∈ xs, ∃ (e1 : En) (cond : Int → Bool), gt (xe z) e = .ok e1 ∧ c e1 = .draw L (fun r => .ok (cond r)) ∧ f e1 = .ok (y z) := fun z hz => h z (List.mem_cons_of_mem _ hz)
    cases cond r with
    | true =>
      rw [if_pos rfl, a3, T.ok_bind, T.wp_bind]
      refine lcL_sub xe y h1 h2 xs (n + 1) hx (by omega) fun zs hz => ?_
      have := q (x :: zs) (hz.cons_cons x)
      rw [List.length_cons, show n + (xs.length + 1) = n + 1 + xs.length by omega] at this
      exact this
    | false =>
      rw [if_neg Bool.false_ne_true]
      refine lcL_sub xe y h1 h2 xs (n + 1) hx (by omega) fun zs hz => ?_
      have := q zs (hz.cons x)
      rw [List.length_cons, show n + (xs.length + 1) = n + 1 + xs.length by omega] at this
      exact this
theorem lcL_ints {α : Type} {gt : D → En → T En} {f : En → T D} {e : En} {E : Ex → Nat → Prop} (xe : α → D) {L : Int} (h1 : 1 ≤ L) (h2 : L ≤ 1000000) : ∀ (xs : List α) (n : Nat) {Q : List D → Nat → Prop}, (∀ x ∈ xs, ∃ e1 : En, gt (xe x) e = .ok e1 ∧ f e1 = .draw L (fun r => .ok (.int r))) → n + xs.length ≤ T.cap →
    (∀ ks : List Int, ks.length = xs.length → (∀ k ∈ ks, 0 ≤ k ∧ k < L) → Q (ks.map .int) (n + xs.length)) → (lcL gt bYes f e (xs.map xe)).wp n Q E
  | [], n, Q, _, _, q => q [] rfl (by simp)
  | x :: xs, n, Q, h, hn, q => by
    obtain ⟨e1, a1, a3⟩ := h x List.mem_cons_self
    rw [List.length_cons] at hn
    rw [List.map_cons, lcL, a1, T.ok_bind, bYes, T.ok_bind, if_pos rfl, a3, T.draw_bind]
    refine ⟨by omega, h1, h2, fun r r0 r1 => ?_⟩
    dsimp only
    rw [T.ok_bind, T.wp_bind]
    refine lcL_ints xe h1 h2 xs (n + 1) (fun z hz => h z (List.mem_cons_of_mem _ hz)) (by omega) fun ks hk hb => ?_
    have := q (r :: ks) (by simp [hk]) (fun k hk => by
      rcases List.mem_cons.mp hk with rfl | hk
      · exact ⟨r0, r1⟩
      · exact hb k hk)
    rw [List.length_cons, show n + (xs.length + 1) = n + 1 + xs.length by omega] at this
    exact this
theorem dDraw_ok (L : Int) : dDraw [.dict [], .int L] = .draw L fun r => .ok (.int r) := rfl
/-! ### pairs in order -/
structure PrOk (i m : Int) (ps : List (Int × Int)) : Prop where
  asc : (prL ps).Pairwise (· < ·)
  bd : ∀ p ∈ ps, 0 ≤ p.1 ∧ p.1 < i ∧ p.1 < p.2 ∧ p.2 < m
theorem PrOk.nil (i m : Int) : PrOk i m [] := ⟨.nil, fun p h => by cases h⟩
theorem PrOk.add {i m : Int} {ps : List (Int × Int)} (h : PrOk i m ps) (h0 : 0 ≤ i) {fs : List Int} (asc : fs.Pairwise (· < ·)) (bd : ∀ f ∈ fs, i < f ∧ f < m) : PrOk (i + 1) m (ps ++ fs.map fun f => (i, f)) := by
  refine ⟨?_, fun p hp => ?_⟩
  · unfold prL
    rw [List.map_append, List.pairwise_append]
    refine ⟨h.asc, ?_, fun a ha b hb => ?_⟩
    · rw [List.map_map, List.pairwise_map]
      refine asc.imp fun {a b} hab => ?_
      exact List.cons_lt_cons_iff.mpr (.inr ⟨rfl, List.cons_lt_cons_iff.mpr (.inl hab)⟩)
    · obtain ⟨p, hp, rfl⟩ := List.mem_map.mp ha
      rw [List.map_map] at hb
      obtain ⟨f, hf, rfl⟩ := List.mem_map.mp hb
      exact List.cons_lt_cons_iff.mpr (.inl (h.bd p hp).2.1)
  · rcases List.mem_append.mp hp with hp | hp
    · have := h.bd p hp
      omega
    · obtain ⟨f, hf, rfl⟩ := List.mem_map.mp hp
      have := bd f hf
      dsimp only
      omega
theorem rgD_pos (a b : Nat) (h : a ≤ b) : rgD (a : Int) (b : Int) = ((List.range (b - a)).map fun i : Nat => ((a : Int) + (i : Int))).map .int := by
  simp only [rgD, List.map_map]
  rw [show ((b : Int) - (a : Int)).toNat = b - a by omega]
  rfl
theorem cRg_nat {a : Nat} (h : a ≤ 1000000) : cRg (a : Int) = true := by
  unfold cRg
  rw [decide_eq_true (by omega), decide_eq_true (by omega)]
  rfl
theorem dRg2_ok {a b : Nat} (h : a ≤ b) (hb : b ≤ 1000000) : dRg2 [.int (a : Int), .int (b : Int)] = .ok (((List.range (b - a)).map fun i : Nat => ((a : Int) + (i : Int))).map .int) := by
  simp only [dRg2, cRg_nat (show a ≤ 1000000 by omega), cRg_nat hb, Bool.and_self, if_true]
  rw [rgD_pos a b h]
theorem dRg1_ok {m : Nat} (h : m ≤ 1000000) : dRg1 [.int (m : Int)] = .ok ((rng m).map .int) := by
  simp only [dRg1, cRg_nat h, if_true]
  rw [rgD_rng]
end PG
set_option Elab.async false
set_option linter.all false
set_option maxRecDepth 100000
set_option maxHeartbeats 8000000
namespace L24
open PySem L2 G9 GxR
open PL (StAt stD Fre spMixed spDraw spBegin spLike Blt gu ixN_nat kCells kLefts kAt kne1 kne2 kne3 st_cells st_lefts st_at st_put not2 big big1 big0 dp_ints shaped_ints)
def top (i : Nat) : Stmt := PySem.Challenge.pw_deedseen_k24_whole_things_and_goals.main.body.getD i (.Pass ⟨0, 0, 0, 0⟩)

abbrev sMixed : Stmt := top 30
abbrev sBegin : Stmt := top 31
abbrev sDraw : Stmt := top 32
abbrev sLike : Stmt := top 38
local macro_rules | `(tactic| walk_at "rd") => `(tactic| (repeat (first | refine ⟨_, rfl, ?_⟩ | refine ⟨_, _, rfl, rfl, ?_⟩ | refine ⟨Or.inl ⟨by omega, by omega⟩, ?_⟩ | refine ⟨Or.inr ⟨by omega, by omega⟩, ?_⟩ | refine ⟨(by show (0 : Int) < _; omega), ?_⟩)))
section
variable {P : Program} {w : World} {K : PySem.W.Frag} {mg : Str → Option Value} {base : Heap}
theorem scM : FnScope ["cell", "k"] ["cell", "k"] (defScope sMixed) := ⟨rfl, rfl, rfl, by decide +kernel, rfl, by decide +kernel, by decide +kernel⟩
theorem ok_mixed {f c : Addr} {fd : FuncData} (F : FunC K "_law_mixed" "_law_mixed" sMixed f fd c) (T : Blt mg) : FnG P w K mg base 1 f fd ["cell", "k"] spMixed := by
  refine F.ok scM (fun vs H Q E h => ?_) (fun A outer s H vs Q hg hr h => ?_)
  · obtain ⟨_, _, rfl, _⟩ := h
    rfl
  · obtain ⟨cv, k, rfl, k0, k1, q⟩ := h
    refine ⟨_, pss_cons (ps_set (i := 0) scM.nd rfl (Or.inl rfl) (pe_op op_mod (pe_callTy call_int1 (by rfl) T.int (by decide +kernel) (pa_cons (pv 0) pa_nil)) pe_int))
      (pss_one (ps_ret (pe_op op_mod (pe_op op_mul (pe_op op_mod (pe_op op_add (pe_op op_add (pe_op op_mul (pv 0) (pe_op op_add pe_int (pe_op op_mul (pe_op op_mul pe_int (pv 1)) (pv 1)))) (pe_op op_mul pe_int (pv 1))) pe_int) pe_int) pe_int) pe_int))), ?_⟩
    have b0 : 0 ≤ cv % 2147483647 := Int.emod_nonneg _ (by decide)
    have b1 : cv % 2147483647 < 2147483647 := Int.emod_lt_of_pos _ (by decide)
    refine ⟨_, rfl, .inl ⟨_, rfl, ?_⟩⟩
    walk_at "rd"
    exact q _ (Int.emod_nonneg _ (by decide)) (Int.lt_trans (Int.emod_lt_of_pos _ (by decide)) (by decide))
theorem scD : FnScope ["state", "limit", "at", "place", "left", "number"] ["state", "limit"] (defScope sDraw) := ⟨rfl, rfl, rfl, by decide +kernel, rfl, by decide +kernel, by decide +kernel⟩
theorem ok_draw {f c fM cM : Addr} {fd fdM : FuncData} (F : FunC K "_law_draw" "_law_draw" sDraw f fd c) (T : Blt mg) (FM : FunC K "_law_mixed" "_law_mixed" sMixed fM fdM cM) (bM : Binds K fdM ["cell", "k"] []) (mM : mg "_law_mixed" = some (.ref fM)) :
    FnG P w K mg base 2 f fd ["state", "limit"] (spDraw K) := by
  have GM : FnG P w K mg base 1 fM fdM ["cell", "k"] spMixed := ok_mixed FM T
  refine F.ok scD (fun vs H Q E h => ?_) (fun A outer s H vs Q hg hr h => ?_)
  · obtain ⟨_, _, _, _, _, rfl, _⟩ := h
    rfl
  · obtain ⟨d, ca, l, n, b, rfl, S, hn, b1, b2, q⟩ := h
    have hu := hu_of hr
    obtain ⟨⟨cs, ls, i, hd, hc, hl, he, hp, h63, i0, i1⟩, ncl, ncd⟩ := id S
    have ndl : d ≠ l := fun z => by rw [z, hl] at hd; cases hd
    refine ⟨_, pss_cons (ps_set (i := 2) scD.nd rfl (Or.inl rfl) (pe_dget hu (pv 0) pe_str (fun _ _ => rfl)))
      (pss_cons (ps_dput hu (pv 0) pe_str (pe_op op_add (pv 2) pe_int) rfl)
      (pss_cons (ps_set (i := 3) scD.nd rfl (Or.inl rfl) (pe_op op_mod (pe_callTy call_int1 (by rfl) T.int (by decide +kernel) (pa_cons (pv 2) pa_nil)) (pe_callB call_len_seq (by rfl) T.len PySem.boot_len (pa_cons (pe_dget hu (pv 0) pe_str (fun _ _ => rfl)) pa_nil))))
      (pss_cons (ps_set (i := 4) scD.nd rfl (Or.inl rfl) (pe_ix ix_list (pe_dget hu (pv 0) pe_str (fun _ _ => rfl)) (pv 3) (fun _ _ => rfl)))
      (pss_cons (ps_if (pt_cmpR op_gt (pv 4) pe_int (nomark _))
        (pss_cons (ps_asg (pe_op op_fdiv (pv 4) (pv 1)) (pg_sub (pe_dget hu (pv 0) pe_str (fun _ _ => rfl)) (pv 3) set_list))
        (pss_one (ps_ret (pe_op op_mod (pe_callTy call_int1 (by rfl) T.int (by decide +kernel) (pa_cons (pv 4) pa_nil)) (pv 1))))) pss_nil)
      (pss_cons (ps_set (i := 5) scD.nd rfl (Or.inl rfl) (pg_call GM (gu hg) (hr.mono (by decide)) (by rfl) mM FM.kp bM (pa_cons (pg_call GM (gu hg) (hr.mono (by decide)) (by rfl) mM FM.kp bM (pa_cons (pe_ix ix_list (pe_dget hu (pv 0) pe_str (fun _ _ => rfl)) (pv 3) (fun _ _ => rfl)) (pa_cons (pv 2) pa_nil))) (pa_cons (pe_op op_add pe_int (pv 2)) pa_nil))))
      (pss_one (ps_ret (pe_op op_mod (pe_op op_fdiv (pe_callTy call_int1 (by rfl) T.int (by decide +kernel) (pa_cons (pe_op op_add (pe_op op_mul (pv 5) pe_int) (pg_call GM (gu hg) (hr.mono (by decide)) (by rfl) mM FM.kp bM (pa_cons (pv 5) (pa_cons (pe_op op_add pe_int (pv 2)) pa_nil)))) pa_nil)) pe_int) (pv 1))))))))), ?_⟩
    have gAt : DGet H d (.str "at") (some (.int i)) := by
      have z := DGet.k (k := kAt) hd
      rw [st_at] at z
      exact z
    have hd1 : ∀ m : Int, upd H d (.dK (stD ca l m)) d = some (.dK (stD ca l m)) := fun m => upd_same
    have gC : ∀ (m : Int) (H2 : Hp), H2 d = some (.dK (stD ca l m)) → DGet H2 d (.str "cells") (some (.ref ca)) := fun m H2 e => by
      have z := DGet.k (k := kCells) e
      rw [st_cells] at z
      exact z
    have gL : ∀ (m : Int) (H2 : Hp), H2 d = some (.dK (stD ca l m)) → DGet H2 d (.str "lefts") (some (.ref l)) := fun m H2 e => by
      have z := DGet.k (k := kLefts) e
      rw [st_lefts] at z
      exact z
    refine ⟨_, rfl, d, _, rfl, gAt, ?_⟩
    refine ⟨_, rfl, _, _, rfl, rfl, _, rfl, d, upd H d (.dK (stD ca l (i + 1))), rfl, (by rw [← st_put ca l i (i + 1)]; exact DPut.k (k := kAt) hd (by show 3 < sizeLine; decide)), ?_⟩
    generalize hH1 : upd H d (.dK (stD ca l (i + 1))) = H1
    have d1 : H1 d = some (.dK (stD ca l (i + 1))) := by rw [← hH1]; exact upd_same
    have x1 : Ext [d, l] H H1 := by rw [← hH1]; exact Ext.put hd (fun _ z => by cases z) (fun z => z) (by simp)
    have c1 : H1 ca = some (.lst (cs.map V.int)) := by rw [← hH1, upd_ne ncd]; exact hc
    have l1 : H1 l = some (.lst (ls.map V.int)) := by rw [← hH1, upd_ne ndl.symm]; exact hl
    have hlp : (0 : Int) < ((cs.map V.int).length : Int) := by rw [List.length_map]; omega
    refine ⟨_, rfl, .inl ⟨_, rfl, _, rfl, d, _, rfl, gC _ _ d1, ca, _, rfl, .inl (.inl (.inl c1)), _, _, rfl, rfl, hlp, ?_⟩⟩
    obtain ⟨j, ej, hj⟩ : ∃ j : Nat, i % ((cs.map V.int).length : Int) = (j : Int) ∧ j < cs.length := by
      refine ⟨(i % ((cs.map V.int).length : Int)).toNat, ?_, ?_⟩
      · have := Int.emod_nonneg i (show ((cs.map V.int).length : Int) ≠ 0 by omega)
        omega
      · have h1 := Int.emod_nonneg i (show ((cs.map V.int).length : Int) ≠ 0 by omega)
        have h2 := Int.emod_lt_of_pos i hlp
        rw [List.length_map] at h1 h2 ⊢
        omega
    have hjl : j < ls.length := by omega
    have aL : atI (ls.map V.int) (i % ((cs.map V.int).length : Int)) = some (V.int ls[j]) := by
      rw [ej]
      exact atI_nat (by rw [List.getElem?_map, List.getElem?_eq_getElem hjl]; rfl)
    have aC : atI (cs.map V.int) (i % ((cs.map V.int).length : Int)) = some (V.int cs[j]) := by
      rw [ej]
      exact atI_nat (by rw [List.getElem?_map, List.getElem?_eq_getElem hj]; rfl)
    refine ⟨_, rfl, d, _, rfl, gL _ _ d1, _, rfl, l, _, _, _, rfl, rfl, .inl (.inl l1), aL, ?_⟩
    refine ⟨_, rfl, _, _, rfl, rfl, _, rfl, ?_⟩
    refine ite2 (fun hpos => ?_) (fun hneg => ?_)
    · refine ⟨_, rfl, _, rfl, _, _, rfl, rfl, ⟨by omega, by omega⟩, _, rfl, d, _, rfl, gL _ _ d1, _, rfl, l, _, _, j, rfl, rfl, l1, (by rw [ej]; exact ixN_nat (by rw [List.length_map]; exact hjl)), ?_⟩
      refine ⟨_, rfl, .inl ⟨_, rfl, _, rfl, _, _, rfl, rfl, (by show (0 : Int) < b; omega), ?_⟩⟩
      generalize hH2 : upd H1 l (.lst ((ls.map V.int).set j (.int (ls[j] / b)))) = H2
      have x2 : Ext [d, l] H H2 := x1.trans (by rw [← hH2]; exact Ext.put l1 (fun _ z => by cases z) (fun z => z) (by simp))
      refine q _ H2 (Int.emod_nonneg _ (by omega)) (Int.emod_lt_of_pos _ (by omega)) ⟨⟨cs, ls.set j (ls[j] / b), i + 1, ?_, ?_, ?_, by rw [List.length_set]; exact he, hp, h63, by omega, by omega⟩, ncl, ncd⟩ x2
      · rw [← hH2, upd_ne ndl]
        exact d1
      · rw [← hH2, upd_ne ncl]
        exact c1
      · rw [← hH2, upd_same, List.map_set]
    · refine ⟨_, rfl, d, _, rfl, gC _ _ d1, _, rfl, ca, _, _, _, rfl, rfl, .inl (.inl c1), aC, _, rfl, ⟨_, _, rfl, i0, by omega, fun m1 m10 m11 => ?_⟩⟩
      refine ⟨_, rfl, _, _, rfl, rfl, _, _, rfl, by omega, by omega, fun m2 m20 m21 => ?_⟩
      refine ⟨_, rfl, _, _, rfl, rfl, .inr ⟨by omega, by omega⟩, _, rfl, _, rfl, _, _, rfl, rfl, _, _, rfl, by omega, by omega, fun m3 m30 m31 => ?_⟩
      refine ⟨_, _, rfl, rfl, .inl ⟨_, rfl, _, _, rfl, rfl, ⟨by omega, by omega⟩, _, rfl, _, _, rfl, rfl, (by show (0 : Int) < b; omega), ?_⟩⟩
      exact q _ H1 (Int.emod_nonneg _ (by omega)) (Int.emod_lt_of_pos _ (by omega)) ⟨⟨cs, ls, i + 1, d1, c1, l1, he, hp, h63, by omega, by omega⟩, ncl, ncd⟩ x1
end
section
variable {P : Program} {w : World} {K : PySem.W.Frag} {mg : Str → Option Value} {base : Heap}
theorem scB : FnScope ["script", "cells_so", "cell"] ["script"] (defScope sBegin) := ⟨rfl, rfl, rfl, by decide +kernel, rfl, by decide +kernel, by decide +kernel⟩
theorem ok_begin {f c : Addr} {fd : FuncData} (F : FunC K "_law_begin" "_law_begin" sBegin f fd c) (T : Blt mg) : FnG P w K mg base 1 f fd ["script"] (spBegin K) := by
  refine F.ok scB (fun vs H Q E h => ?_) (fun A outer s H vs Q hg hr h => ?_)
  · obtain ⟨_, _, rfl, _⟩ := h
    rfl
  · obtain ⟨a, ns, rfl, hS, h63, q⟩ := h
    have hu := hu_of hr
    refine ⟨_, pss_cons (ps_set (i := 1) scB.nd rfl (Or.inl rfl) (pe_ifExp (pt_cmpR (op_neD hr.units) (pv 0) (pe_lst pa_nil) (nomark _)) (pe_callTy call_list_of (by rfl) T.list (by decide +kernel) (pa_cons (pv 0) pa_nil)) (pe_lst (pa_cons pe_int pa_nil))))
      (pss_one (ps_ret (pe_disp (pps_cons pe_str (pv 1) (pps_cons pe_str
          (pe_lc (own := [("cell", 2)]) (g := gName 2) (tt := tYes) rfl scB.nd (pi_list (pv 1)) (blkOk_by (N := ["script", "cells_so", "cell"]) (sc := defScope sBegin) (by decide +kernel)) (fun _ _ _ _ _ => pg_name (i := 2) scB.nd rfl (Or.inl rfl)) (fun _ _ _ _ _ => pts_nil)
            (fun _ _ _ _ _ => pe_ifExp (pt_cmpR op_ge (pv 2) (pe_op op_pow pe_int pe_int) (nomark _)) (pv 2) pe_int)) (pps_cons pe_str pe_int pps_nil))) (by rfl) (by rfl) (fun z => by cases z) (by decide)))), ?_⟩
    refine ⟨_, rfl, by decide, fun e he => ⟨.list (ns.map .int), .list [], .lst ((Ext.new he).lst (S := []) (by simp) hS) (dp_ints _ _ ns), .lst SqL.new .nil, shaped_ints ns, rfl, _, rfl, ?_⟩⟩
    have x0 : Ext [] H (upd H e (.lst [])) := Ext.new he
    generalize hH0 : upd H e (.lst []) = H0 at x0
    have rest : ∀ (p : Addr) (cs : List Int) (H2 : Hp), H p = none → H2 p = some (.lst (cs.map V.int)) → 0 < cs.length → cs.length ≤ 63 → Ext [] H H2 →
        tRet (tDisp [(tC (.str "cells"), tVar 1), (tC (.str "lefts"), tLc (iList K (tVar 1)) (gName 2) tYes (tIf (tTest (tOp (rI0 fun i j => V.bl (decide (j ≤ i))) (tVar 2) (tOp (rI CPow fun i j => V.int (i ^ j.toNat)) (tC (.int 10)) (tC (.int 18))))) (tVar 2) (tC (.int 0))) [2]), (tC (.str "at"), tC (.int 0))])
          { nx := fun _ H' => Q .non H', rt := Q } [some (.ref a), some (.ref p), none] H2 := by
      intro p cs H2 hp h2 c0 c63 x2
      intro d hd
      refine ⟨_, rfl, ?_⟩
      have hpd : p ≠ d := ne_of_none h2 hd
      have hc1 : upd H2 d (.dK []) p = some (.lst (cs.map V.int)) := by rw [upd_ne hpd]; exact h2
      generalize hH3 : upd H2 d (.dK []) = H3 at hc1
      have hd3 : H3 d = some (.dK []) := by rw [← hH3]; exact upd_same
      have x3 : Ext [] H2 H3 := by rw [← hH3]; exact Ext.new hd
      refine ⟨_, rfl, p, rfl, ⟨_, .inl (.inl hc1)⟩, fun D hD => lc_list (K := K) (a := p) (xs := cs.map V.int) (fun i H' => H' = upd H3 D (.lst (((cs.take i).map big).map V.int))) rfl (fun i H' _ e => ?_) (fun i x H' hx e => ?_) (fun H' e => ?_)⟩
      · subst e
        exact (Ext.new (S := []) hD).lst (by simp) (.inl (.inl hc1))
      · subst e
        rw [List.getElem?_map] at hx
        cases ei : cs[i]? with
        | none => rw [ei] at hx; cases hx
        | some z =>
          rw [ei] at hx
          cases hx
          refine ⟨rfl, ?_⟩
          simp only [tYes, if_true]
          refine ⟨_, rfl, _, _, rfl, rfl, ⟨by decide, by decide, by decide⟩, _, _, rfl, rfl, _, rfl, ?_⟩
          have il := (List.getElem?_eq_some_iff.mp ei).1
          have tk : cs.take (i + 1) = cs.take i ++ [z] := by
            rw [List.take_add_one, ei]
            rfl
          refine ite2 (fun hz => ?_) (fun hz => ?_)
          · refine ⟨_, rfl, _, upd_same, ?_, ?_⟩
            · simp only [List.length_map, List.length_take]
              exact small1000 (by omega)
            · have hz' : z ≥ 10 ^ 18 := by simpa using hz
              rw [upd_upd, tk, List.map_append, List.map_append, List.map_singleton, List.map_singleton, big1 hz']
          · refine ⟨_, upd_same, ?_, ?_⟩
            · simp only [List.length_map, List.length_take]
              exact small1000 (by omega)
            · have hz' : ¬ z ≥ 10 ^ 18 := by simpa using hz
              rw [upd_upd, tk, List.map_append, List.map_append, List.map_singleton, List.map_singleton, big0 hz']
      · subst e
        rw [List.take_of_length_le (by simp)]
        have hDd : d ≠ D := ne_of_none hd3 hD
        have hpD : p ≠ D := ne_of_none hc1 hD
        refine ⟨by rw [upd_ne hDd]; exact hd3, stD p D 0, rfl, by show 3 ≤ 15; decide, ?_⟩
        have em : mergeK [] (stD p D 0) = stD p D 0 := by
          have e1 : ¬ (kAt = kCells) := by decide +kernel
          have e2 : ¬ (kAt = kLefts) := by decide +kernel
          have e3 : ¬ (kLefts = kCells) := by decide +kernel
          simp only [mergeK, stD, List.foldl_cons, List.foldl_nil, putK, List.any_nil, List.any_cons, Bool.false_eq_true, if_false, List.nil_append, decide_eq_false kne3, decide_eq_false kne1, decide_eq_false kne2, Bool.or_false, List.cons_append]
        rw [em]
        generalize hls : (cs.map big) = ls
        have hll : ls.length = cs.length := by rw [← hls, List.length_map]
        refine q d p D _ ⟨⟨cs, ls, 0, upd_same, (by rw [upd_ne hpd, upd_ne hpD]; exact hc1), by rw [upd_ne hDd.symm, upd_same], hll.symm, c0, c63, by omega, by omega⟩, hpD, hpd⟩ ?_
        · refine x2.then fun b o eb => ?_
          have n1 : b ≠ d := ne_of_none eb hd
          have e3 : H3 b = some o := by rw [← hH3, upd_ne n1]; exact eb
          rw [upd_ne n1, upd_ne (ne_of_none e3 hD)]
          exact e3
    cases ns with
    | nil =>
      refine iteF ⟨by decide, fun p hp => ?_⟩
      exact rest p [0] _ (by
        cases z : H p with
        | none => rfl
        | some o =>
          rw [← hH0, upd_ne (ne_of_none z he)] at hp
          rw [z] at hp
          cases hp) upd_same (by decide) (by decide) (x0.trans (.new hp))
    | cons n ns =>
      refine iteT ⟨_, rfl, a, _, rfl, .inl (x0.lst (by simp) hS), fun p hp => ?_⟩
      exact rest p (n :: ns) _ (by
        cases z : H p with
        | none => rfl
        | some o =>
          rw [← hH0, upd_ne (ne_of_none z he)] at hp
          rw [z] at hp
          cases hp) upd_same (Nat.succ_pos _) h63 (x0.trans (.new hp))
theorem scK : FnScope ["got", "due"] ["got", "due"] (defScope sLike) := ⟨rfl, rfl, rfl, by decide +kernel, rfl, by decide +kernel, by decide +kernel⟩
theorem ok_like {f c : Addr} {fd : FuncData} (F : FunC K "_law_like" "_law_like" sLike f fd c) (T : Blt mg) : FnG P w K mg base 1 f fd ["got", "due"] (spLike K) := by
  refine F.ok scK (fun vs H Q E h => ?_) (fun A outer s H vs Q hg hr h => ?_)
  · obtain ⟨_, _, _, rfl, _⟩ := h
    rfl
  · obtain ⟨x, y, d, rfl, hx, hy, S, q⟩ := h
    refine ⟨_, pss_one (ps_ret (pe_cmpR op_eq (pe_callB (call_reprD (gu hg) hr) (by rfl) T.repr (by decide +kernel) (pa_cons (pv 0) pa_nil)) (pe_callB (call_reprD (gu hg) hr) (by rfl) T.repr (by decide +kernel) (pa_cons (pv 1) pa_nil)) (nomark _))), ?_⟩
    refine ⟨_, rfl, _, d, rfl, hx, S, _, rfl, _, d, rfl, hy, S, rfl, ?_⟩
    rw [decide_eq_true rfl]
    exact q
end
end L24
set_option Elab.async false
set_option linter.all false
set_option maxRecDepth 100000
set_option maxHeartbeats 8000000
namespace L24
open PySem L2 G9 GxR PL PG
/-! ### is_integer -/
abbrev s_is_integer : Stmt := top 7
theorem sc_is_integer : FnScope n_is_integer ["value", "least", "most"] (defScope s_is_integer) := ⟨rfl, rfl, rfl, by decide +kernel, rfl, by decide +kernel, by decide +kernel⟩
/-! ### is_lot -/
abbrev s_is_lot : Stmt := top 8
theorem sc_is_lot : FnScope n_is_lot ["count", "value"] (defScope s_is_lot) := ⟨rfl, rfl, rfl, by decide +kernel, rfl, by decide +kernel, by decide +kernel⟩
/-! ### _need_arrows -/
abbrev s_uneed_arrows : Stmt := top 21
theorem sc_uneed_arrows : FnScope n_uneed_arrows ["count", "arrows"] (defScope s_uneed_arrows) := ⟨rfl, rfl, rfl, by decide +kernel, rfl, by decide +kernel, by decide +kernel⟩
/-! ### _need_causes -/
abbrev s_uneed_causes : Stmt := top 22
theorem sc_uneed_causes : FnScope n_uneed_causes ["count", "causes"] (defScope s_uneed_causes) := ⟨rfl, rfl, rfl, by decide +kernel, rfl, by decide +kernel, by decide +kernel⟩
/-! ### is_tuple_of -/
abbrev s_is_tuple_of : Stmt := top 6
theorem sc_is_tuple_of : FnScope n_is_tuple_of ["value", "many"] (defScope s_is_tuple_of) := ⟨rfl, rfl, rfl, by decide +kernel, rfl, by decide +kernel, by decide +kernel⟩
/-! ### need_drawing -/
abbrev s_need_drawing : Stmt := top 20
theorem sc_need_drawing : FnScope n_need_drawing ["drawing"] (defScope s_need_drawing) := ⟨rfl, rfl, rfl, by decide +kernel, rfl, by decide +kernel, by decide +kernel⟩
/-! ### meets -/
abbrev s_meets : Stmt := top 11
theorem sc_meets : FnScope n_meets ["lot", "other"] (defScope s_meets) := ⟨rfl, rfl, rfl, by decide +kernel, rfl, by decide +kernel, by decide +kernel⟩
/-! ### lies_in -/
abbrev s_lies_in : Stmt := top 10
theorem sc_lies_in : FnScope n_lies_in ["lot", "other"] (defScope s_lies_in) := ⟨rfl, rfl, rfl, by decide +kernel, rfl, by decide +kernel, by decide +kernel⟩
/-! ### need_question -/
abbrev s_need_question : Stmt := top 24
theorem sc_need_question : FnScope n_need_question ["question"] (defScope s_need_question) := ⟨rfl, rfl, rfl, by decide +kernel, rfl, by decide +kernel, by decide +kernel⟩
/-! ### leading_in -/
abbrev s_leading_in : Stmt := top 15
theorem sc_leading_in : FnScope n_leading_in ["arrows", "lot", "goal"] (defScope s_leading_in) := ⟨rfl, rfl, rfl, by decide +kernel, rfl, by decide +kernel, by decide +kernel⟩
/-! ### all_without -/
abbrev s_all_without : Stmt := top 14
theorem sc_all_without : FnScope n_all_without ["count", "lot"] (defScope s_all_without) := ⟨rfl, rfl, rfl, by decide +kernel, rfl, by decide +kernel, by decide +kernel⟩
/-! ### goal_in -/
abbrev s_goal_in : Stmt := top 16
theorem sc_goal_in : FnScope n_goal_in ["drawing", "closed", "ends"] (defScope s_goal_in) := ⟨rfl, rfl, rfl, by decide +kernel, rfl, by decide +kernel, by decide +kernel⟩
/-! ### together -/
abbrev s_together : Stmt := top 12
theorem sc_together : FnScope n_together ["lot", "other"] (defScope s_together) := ⟨rfl, rfl, rfl, by decide +kernel, rfl, by decide +kernel, by decide +kernel⟩
/-! ### lot_without -/
abbrev s_lot_without : Stmt := top 13
theorem sc_lot_without : FnScope n_lot_without ["lot", "other"] (defScope s_lot_without) := ⟨rfl, rfl, rfl, by decide +kernel, rfl, by decide +kernel, by decide +kernel⟩
/-! ### goal_behind -/
abbrev s_goal_behind : Stmt := top 28
theorem sc_goal_behind : FnScope n_goal_behind ["question", "moved"] (defScope s_goal_behind) := ⟨rfl, rfl, rfl, by decide +kernel, rfl, by decide +kernel, by decide +kernel⟩
/-! ### is_row_of -/
abbrev s_is_row_of : Stmt := top 9
theorem sc_is_row_of : FnScope n_is_row_of ["lot", "value"] (defScope s_is_row_of) := ⟨rfl, rfl, rfl, by decide +kernel, rfl, by decide +kernel, by decide +kernel⟩
/-! ### goal -/
abbrev s_goal : Stmt := top 27
theorem sc_goal : FnScope n_goal ["question", "moved"] (defScope s_goal) := ⟨rfl, rfl, rfl, by decide +kernel, rfl, by decide +kernel, by decide +kernel⟩
/-! ### _law_comes -/
abbrev s_w_comes : Stmt := top 35
abbrev n_w_comes : List Str := ["arrows_so", "outside", "spot", "targets", "near", "far"]
theorem sc_w_comes : FnScope n_w_comes ["arrows_so", "outside", "spot", "targets"] (defScope s_w_comes) := ⟨rfl, rfl, rfl, by decide +kernel, rfl, by decide +kernel, by decide +kernel⟩
def t_w_comes (r : List D → T D) : En → T Fl := (sSq (sIf (fB (f2 (oIn false) (fVar 2) (fVar 3))) (sRet (fC (.bool true))) sNx)
  (sSq (sFor (iSeq (fVar 0)) (gT 2 (gsC (gN 4) (gsC (gN 5) gsN))) (sIf (bAnd (fB (f2 oEq (fVar 4) (fVar 2))) (bAnd (fB (f2 (oIn false) (fVar 5) (fVar 1))) (fTru (fCall r (aCons (fVar 0) (aCons (fVar 1) (aCons (fVar 5) (aCons (fVar 3) aNil)))))))) (sRet (fC (.bool true))) sNx))
  (sRet (fC (.bool false)))))
def d_w_comes : Nat → List D → T D
  | 0 => fun _ => .bad
  | i + 1 => fnD n_w_comes 4 (t_w_comes (d_w_comes i))
/-! ### _law_due -/
abbrev s_w_due : Stmt := top 36
abbrev n_w_due : List Str := ["asked_so", "told", "draw_so", "tried_so", "set_so", "seen_so", "targets", "outside", "spot"]
theorem sc_w_due : FnScope n_w_due ["asked_so", "told"] (defScope s_w_due) := ⟨rfl, rfl, rfl, by decide +kernel, rfl, by decide +kernel, by decide +kernel⟩
def t_w_due : En → T Fl := (sSq (sAsg (fVar 0) (gT 5 (gsC (gN 2) (gsC (gN 3) (gsC (gN 4) (gsC (gN 5) (gsC (gN 6) gsN)))))))
  (sSq (sSet 7 (fLc (iRg dRg1 (aCons (f2 oIx (fVar 2) (fC (.int 0))) aNil)) (gN 8) (bAnd (fB (f2 (oIn true) (fVar 8) (fVar 4))) (fB (f2 (oIn true) (fVar 8) (fVar 1)))) (fVar 8) [8]))
  (sSq (sSet 6 (f2 oAdd (fVar 6) (f1 oTupOf (fLc (iSeq (fVar 5)) (gN 8) (fB (f2 (oIn true) (fVar 8) (fVar 1))) (fVar 8) [8]))))
  (sRet (f1 oTupOf (fLc (iSeq (fVar 7)) (gN 8) (fTru (fCall (d_w_comes 9) (aCons (f2 oIx (fVar 2) (fC (.int 1))) (aCons (fVar 7) (aCons (fVar 8) (aCons (fVar 6) aNil)))))) (fVar 8) [8]))))))
def d_w_due : List D → T D := fnD n_w_due 2 t_w_due
/-! ### _law_moves -/
abbrev s_w_moves : Stmt := top 37
abbrev n_w_moves : List Str := ["seen_so", "found", "last", "step", "more", "told", "spot"]
theorem sc_w_moves : FnScope n_w_moves ["seen_so"] (defScope s_w_moves) := ⟨rfl, rfl, rfl, by decide +kernel, rfl, by decide +kernel, by decide +kernel⟩
def t_w_moves : En → T Fl := (sSq (sPar 1 2 (aCons (fLst (aCons (fTup aNil) aNil)) (aCons (fLst (aCons (fTup aNil) aNil)) aNil)))
  (sSq (sFor (iRg dRg1 (aCons (fC (.int 3)) aNil)) (gN 3) (sSq (sSet 4 (fLst aNil))
  (sSq (sFor (iSeq (fVar 2)) (gN 5) (sSet 4 (f2 oAdd (fVar 4) (fLc (iSeq (fSl (fVar 0) fo0 (fo1 (fC (.int 4))))) (gN 6) (fB (f2 (oIn true) (fVar 6) (fVar 5))) (f2 oAdd (fVar 5) (fTup (aCons (fVar 6) aNil))) [6]))))
  (sPar 1 2 (aCons (f2 oAdd (fVar 1) (fVar 4)) (aCons (fVar 4) aNil))))))
  (sRet (fVar 1))))
def d_w_moves : List D → T D := fnD n_w_moves 1 t_w_moves
/-! ### things_in -/
abbrev s_things_in : Stmt := top 26
theorem sc_things_in : FnScope n_things_in ["question"] (defScope s_things_in) := ⟨rfl, rfl, rfl, by decide +kernel, rfl, by decide +kernel, by decide +kernel⟩
/-! ### things_of -/
abbrev s_things_of : Stmt := top 25
theorem sc_things_of : FnScope n_things_of ["question"] (defScope s_things_of) := ⟨rfl, rfl, rfl, by decide +kernel, rfl, by decide +kernel, by decide +kernel⟩
/-! ### _law_right -/
abbrev s_w_right : Stmt := top 39
abbrev n_w_right : List Str := ["asked_so", "draw_so", "tried_so", "set_so", "seen_so", "targets", "whole", "told", "due", "spot", "near", "far"]
theorem sc_w_right : FnScope n_w_right ["asked_so"] (defScope s_w_right) := ⟨rfl, rfl, rfl, by decide +kernel, rfl, by decide +kernel, by decide +kernel⟩
def t_w_right : En → T Fl := (sSq (sAsg (fVar 0) (gT 5 (gsC (gN 1) (gsC (gN 2) (gsC (gN 3) (gsC (gN 4) (gsC (gN 5) gsN)))))))
  (sSq (sIf (bNot (fTru (fCall dLike (aCons (fCall PG.d_things_of (aCons (fVar 0) aNil)) (aCons (f1 oTupOf (f1 oSorted (f2 oAdd (f2 oAdd (fVar 3) (fVar 4)) (fVar 5)))) aNil))))) (sRet (fC (.bool false))) sNx)
  (sSq (sSet 6 (fCall d_w_due (aCons (fVar 0) (aCons (fTup aNil) aNil))))
  (sSq (sFor (iSeq (fCall d_w_moves (aCons (fVar 4) aNil))) (gN 7) (sSq (sSet 8 (fCall PG.d_goal (aCons (fVar 0) (aCons (fVar 7) aNil))))
  (sSq (sIf (bNot (fTru (fCall dLike (aCons (fVar 8) (aCons (fCall d_w_due (aCons (fVar 0) (aCons (fVar 7) aNil))) aNil))))) (sRet (fC (.bool false))) sNx)
  (sSq (sIf (fB (f2 oNe (fLc (iSeq (fVar 8)) (gN 9) (bOr (fB (f2 (oIn true) (fVar 9) (fVar 6))) (bOr (fB (f2 (oIn false) (fVar 9) (fVar 3))) (fB (f2 (oIn false) (fVar 9) (fVar 7))))) (fC (.int 1)) [9]) (fLst aNil))) (sRet (fC (.bool false))) sNx)
  (sSq (sFor (iSeq (f2 oIx (fVar 1) (fC (.int 1)))) (gT 2 (gsC (gN 10) (gsC (gN 11) gsN))) (sIf (bAnd (fB (f2 (oIn false) (fVar 11) (fVar 8))) (bAnd (fB (f2 (oIn true) (fVar 10) (fVar 8))) (bAnd (fB (f2 (oIn true) (fVar 10) (fVar 3))) (fB (f2 (oIn true) (fVar 10) (fVar 7)))))) (sRet (fC (.bool false))) sNx))
  (sIf (fB (f2 oNe (fLc (iSeq (fVar 5)) (gN 9) (fB (f2 (oIn true) (fVar 9) (fVar 8))) (fC (.int 1)) [9]) (fLst aNil))) (sRet (fC (.bool false))) sNx))))))
  (sRet (fC (.bool true)))))))
def d_w_right : List D → T D := fnD n_w_right 1 t_w_right
/-! ### _law_question -/
abbrev s_w_question : Stmt := top 34
abbrev n_w_question : List Str := ["state", "draw_so", "kinds", "spot", "lots", "kind", "told", "tried_so"]
theorem sc_w_question : FnScope n_w_question ["state", "draw_so"] (defScope s_w_question) := ⟨rfl, rfl, rfl, by decide +kernel, rfl, by decide +kernel, by decide +kernel⟩
def t_w_question : En → T Fl := (sOwL 2 (nLc (iRg dRg1 (aCons (f2 oIx (fVar 1) (fC (.int 0))) aNil)) (gN 3) bYes (fCall dDraw (aCons (fVar 0) (aCons (fC (.int 4)) aNil))) [3]) (sSqR [2] (oSetI 2 (fC (.int 2)) (fCall dDraw (aCons (fVar 0) (aCons (f2 oIx (fVar 1) (fC (.int 0))) aNil)))) (sRel [2] (sSq (sSet 4 (fLc (iRg dRg1 (aCons (fC (.int 3)) aNil)) (gN 6) bYes (f1 oTupOf (fLc (iRg dEnum (aCons (fVar 2) aNil)) (gT 2 (gsC (gN 3) (gsC (gN 5) gsN))) (fB (f2 oEq (fVar 5) (fVar 6))) (fVar 3) [3, 5])) [6]))
  (sSq (sSet 7 (f1 oTupOf (fLc (iSeq (f2 oIx (fVar 4) (fC (.int 0)))) (gN 3) (fB (f2 oEq (fCall dDraw (aCons (fVar 0) (aCons (fC (.int 4)) aNil))) (fC (.int 0)))) (fVar 3) [3])))
  (sRet (fTup (aCons (fVar 1) (aCons (fVar 7) (aCons (f2 oIx (fVar 4) (fC (.int 0))) (aCons (f2 oIx (fVar 4) (fC (.int 1))) (aCons (f2 oIx (fVar 4) (fC (.int 2))) aNil))))))))))))
def d_w_question : List D → T D := fnD n_w_question 2 t_w_question
/-! ### _law_drawing -/
abbrev s_w_drawing : Stmt := top 33
abbrev n_w_drawing : List Str := ["state", "low", "high", "count", "arrows_so", "causes_so", "near", "far"]
theorem sc_w_drawing : FnScope n_w_drawing ["state", "low", "high"] (defScope s_w_drawing) := ⟨rfl, rfl, rfl, by decide +kernel, rfl, by decide +kernel, by decide +kernel⟩
def t_w_drawing : En → T Fl := (sSq (sSet 3 (f2 oAdd (fVar 1) (fCall dDraw (aCons (fVar 0) (aCons (f2 oAdd (f2 oSub (fVar 2) (fVar 1)) (fC (.int 1))) aNil)))))
  (sSq (sPar 4 5 (aCons (fLst aNil) (aCons (fLst aNil) aNil)))
  (sSq (sFor (iRg dRg1 (aCons (fVar 3) aNil)) (gN 6) (sSq (sSet 4 (f2 oAdd (fVar 4) (fLc (iRg dRg2 (aCons (f2 oAdd (fVar 6) (fC (.int 1))) (aCons (fVar 3) aNil))) (gN 7) (fB (f2 oEq (fCall dDraw (aCons (fVar 0) (aCons (fC (.int 2)) aNil))) (fC (.int 0)))) (fTup (aCons (fVar 6) (aCons (fVar 7) aNil))) [7])))
  (sSet 5 (f2 oAdd (fVar 5) (fLc (iRg dRg2 (aCons (f2 oAdd (fVar 6) (fC (.int 1))) (aCons (fVar 3) aNil))) (gN 7) (fB (f2 oEq (fCall dDraw (aCons (fVar 0) (aCons (fC (.int 6)) aNil))) (fC (.int 0)))) (fTup (aCons (fVar 6) (aCons (fVar 7) aNil))) [7])))))
  (sRet (fTup (aCons (fVar 3) (aCons (f1 oTupOf (fVar 4)) (aCons (f1 oTupOf (fSl (fVar 5) fo0 (fo1 (fC (.int 20))))) aNil))))))))
def d_w_drawing : List D → T D := fnD n_w_drawing 3 t_w_drawing
/-! ### law -/
abbrev s_law : Stmt := top 40
abbrev n_law : List Str := ["script", "state", "turn", "told", "got"]
theorem sc_law : FnScope n_law ["script"] (defScope s_law) := ⟨rfl, rfl, rfl, by decide +kernel, rfl, by decide +kernel, by decide +kernel⟩
def t_law : En → T Fl := (sSq (sFor (iRg dRg1 (aCons (fC (.int 5)) aNil)) (gN 2) (sIf (bNot (fTru (fCall d_w_right (aCons (fCall d_w_question (aCons (fVar 1) (aCons (fCall d_w_drawing (aCons (fVar 1) (aCons (fC (.int 1)) (aCons (fC (.int 8)) aNil)))) aNil))) aNil)))) (sRet (fC (.bool false))) sNx))
  (sSq (sSet 3 (fTup (aCons (fTup (aCons (fC (.int 4)) (aCons (fTup (aCons (fTup (aCons (fC (.int 0)) (aCons (fC (.int 1)) aNil))) (aCons (fTup (aCons (fC (.int 0)) (aCons (fC (.int 3)) aNil))) (aCons (fTup (aCons (fC (.int 1)) (aCons (fC (.int 2)) aNil))) aNil)))) (aCons (fTup aNil) aNil)))) (aCons (fTup aNil) (aCons (fTup aNil) (aCons (fTup (aCons (fC (.int 1)) (aCons (fC (.int 3)) aNil))) (aCons (fTup (aCons (fC (.int 2)) aNil)) aNil)))))))
  (sSq (sSet 4 (fLst (aCons (fCall PG.d_goal (aCons (fVar 3) (aCons (fTup aNil) aNil))) (aCons (fCall PG.d_goal (aCons (fVar 3) (aCons (fTup (aCons (fC (.int 1)) aNil)) aNil))) (aCons (fCall PG.d_goal (aCons (fVar 3) (aCons (fTup (aCons (fC (.int 3)) aNil)) aNil))) (aCons (fCall PG.d_goal (aCons (fVar 3) (aCons (fTup (aCons (fC (.int 3)) (aCons (fC (.int 1)) aNil))) aNil))) aNil))))))
  (sRet (fCall dLike (aCons (fVar 4) (aCons (fLst (aCons (fTup (aCons (fC (.int 0)) (aCons (fC (.int 1)) (aCons (fC (.int 2)) (aCons (fC (.int 3)) aNil))))) (aCons (fTup (aCons (fC (.int 0)) (aCons (fC (.int 2)) (aCons (fC (.int 3)) aNil)))) (aCons (fTup (aCons (fC (.int 0)) (aCons (fC (.int 1)) (aCons (fC (.int 2)) aNil)))) (aCons (fTup (aCons (fC (.int 2)) aNil)) aNil))))) aNil)))))))
end L24
set_option Elab.async false
set_option linter.all false
set_option maxRecDepth 100000
set_option maxHeartbeats 8000000
namespace L24
open PySem L2 PL PG
local macro_rules | `(tactic| walk_at "gen") => `(tactic| simp (decide := false) (implicitDefEqProofs := false) only [gYes, gBv, gIn, gLoc, gFree, gEq, gAnd, gIsT, gInt, tyD, isOwn, flatD, all_flat, any_eqv, Function.comp_apply, List.getElem?_cons_zero, List.getElem?_cons_succ, Option.bind_some, Option.map_some, Bool.and_self, if_true, if_false, Bool.false_eq_true, reduceIte, decide_true, Bool.and_true, Bool.true_and])
local macro_rules | `(tactic| walk_at "ev") => `(tactic| simp (decide := false) (implicitDefEqProofs := false) only [fnD, runD, startE, endD, sqK, sqR, relE, rel1, unown, noX, asB, asI, oTru, oIsT, tyD, oLen, oInt, oTupOf, oListOf, gN, gT, gsC, gsN, dSeq, dRev, isOwn, wipeE, ↓sNx_a, ↓sSq_a, ↓sIf_a, ↓sSet_a, ↓sAsg_a, ↓sRet_a, ↓sRetN_a, ↓sDrop_a, ↓sBad_a, ↓sFor_a, ↓sBk_a, ↓sCt_a, ↓sPar_a, ↓sOwS_a, ↓sSqR_a, ↓sRel_a, ↓sOwL_a, ↓oSAdd_a, ↓oApp_a, ↓oSetI_a, ↓fVar_a, ↓fC_a, ↓f1_a, ↓f2_a, ↓fB_a, ↓fTru_a, ↓bNot_a, ↓bAnd_a, ↓bOr_a, ↓bYes_a, ↓fNot_a, ↓fAnd_a, ↓fOr_a, ↓fIf_a, ↓aNil_a, ↓aCons_a, ↓fTup_a, ↓fLst_a, ↓fCall_a, ↓oCh_a, ↓iSeq_a, ↓iRg_a, ↓iOf_a, ↓fLc_a, ↓fSl_a, ↓fo0_a, ↓fo1_a, ↓fTupRg_a, ↓fLstRg_a, ↓fLenSet_a, ↓fSortSet_a, ↓nLst_a, ↓nLc_a, ↓fSIn_a, ↓fSSort_a, ↓fSLen_a, ↓fLLen_a, ↓fLTup_a, ↓fLIx_a, ↓fG1_a, ↓fG2_a, ↓iPrs_a, ↓iEnG_a, T.ok_bind, T.bad_bind, T.exc_bind, T.draw_bind,
  List.length_cons, List.length_nil, List.map_cons, List.map_nil, List.length_map, List.length_replicate, Nat.reduceAdd, Nat.reduceSub, Nat.sub_self, List.replicate_zero, List.append_nil, List.cons_append, List.nil_append, List.replicate_succ, List.getElem?_cons_zero, List.getElem?_cons_succ, List.set_cons_zero, List.set_cons_succ, if_true, if_false, Bool.false_eq_true, Bool.not_true, Bool.not_false, reduceIte, reduceCtorEq, decide_true, decide_false, Bool.true_and, Bool.and_true, Bool.false_and, Bool.and_false, Bool.or_true, Bool.or_false, Bool.true_or, Bool.false_or, eq_self, cast0, cast1, cast2, cast3, cast4, cast5, oLe_int, oLt_int, oGt_int, oGe_int, oAdd_int, oSub_int, oEq_int, oNe_int, oIn_tup, oIn_lst, bool_and, bool_or, t_and, t_or, oLe_tup, oLt_tup, dDraw_ok, ixT0, ixL0, ixT1, ixL1, ixT2, ixL2, ixT3, ixL3, ixT4, ixL4, ixT5, ixL5, ixT6, ixL6, ixT7, ixL7])

/-- the loop of _law_drawing -/
structure DwI (m : Nat) (n0 : Nat) (i : Nat) (e : En) (n : Nat) : Prop where
  ex : ∃ (lo hi : Int) (ps cs : List (Int × Int)) (u v : Option D), e = [some (.dict []), some (.int lo), some (.int hi), some (.int m), some (.list (ps.map fun p => eI [p.1, p.2])), some (.list (cs.map fun p => eI [p.1, p.2])), u, v] ∧ PrOk i m ps ∧ PrOk i m cs ∧ ps.length ≤ 10 * i ∧ cs.length ≤ 10 * i ∧ n ≤ n0 + 20 * i
theorem sub_rng {a b : Nat} {zs : List Int} (h : zs.Sublist ((List.range (b - a)).map fun i : Nat => ((a : Int) + (i : Int)))) : zs.Pairwise (· < ·) ∧ (∀ z ∈ zs, (a : Int) ≤ z ∧ z < max a b) ∧ zs.length ≤ b - a := by
  refine ⟨?_, fun z hz => ?_, by simpa using h.length_le⟩
  · refine List.Pairwise.sublist h ?_
    rw [List.pairwise_map]
    exact List.pairwise_lt_range.imp fun {x y} hxy => by omega
  · obtain ⟨i, hi, rfl⟩ := List.mem_map.mp (h.subset hz)
    have := List.mem_range.mp hi
    omega
theorem comp_wp (m i : Nat) (L : Int) (h1 : 1 ≤ L) (h2 : L ≤ 1000000) (him : i + 1 ≤ m) (hm : m ≤ 10) {e : En} {n : Nat} {E : Ex → Nat → Prop} (he : ∃ lo hi a b v, e = [some (.dict []), some (.int lo), some (.int hi), some (.int m), a, b, some (.int (i : Nat)), v]) (hn : n ≤ 500000)
    {Q : D → Nat → Prop} (q : ∀ fs : List Int, fs.Pairwise (· < ·) → (∀ f ∈ fs, (i : Int) < f ∧ f < m) → fs.length ≤ 10 → Q (.list (fs.map fun f => eI [(i : Int), f])) (n + (m - (i + 1)))) :
    (fLc (iRg dRg2 (aCons (f2 oAdd (fVar 6) (fC (.int 1))) (aCons (fVar 3) aNil))) (gN 7) (fB (f2 oEq (fCall dDraw (aCons (fVar 0) (aCons (fC (.int L)) aNil))) (fC (.int 0)))) (fTup (aCons (fVar 6) (aCons (fVar 7) aNil))) [7] e).wp n Q E := by
  obtain ⟨lo, hi, a, b, v, rfl⟩ := he
  have hr := dRg2_ok (a := i + 1) (b := m) him (by omega)
  rw [show (((i + 1 : Nat)) : Int) = (i : Int) + 1 by omega] at hr
  walk_at "ev"
  rw [hr]
  walk_at "ev"
  rw [T.wp_bind]
  refine lcL_sub (L := L) .int (fun f => eI [(i : Int), f]) h1 h2 _ n (fun x hx => ?_) (by simp [T.cap]; omega) fun zs hz => ?_
  · refine ⟨_, fun r => decide (r = 0), rfl, ?_, ?_⟩
    · walk_at "ev"
    · walk_at "ev"
      rw [mkT_ok _ (by simp)]
      rfl
  · obtain ⟨z1, z2, z3⟩ := sub_rng (a := i + 1) (b := m) (by rw [show (((i + 1 : Nat)) : Int) = (i : Int) + 1 by omega]; exact hz)
    have := q zs z1 (fun f hf => by have := z2 f hf; omega) (by omega)
    rw [List.length_map, List.length_range]
    exact this
theorem lst_sl20 (cs : List (Int × Int)) : cutD (cs.map fun p => eI [p.1, p.2]) none (some 20) = (cs.take 20).map fun p => eI [p.1, p.2] := by
  unfold cutD
  rw [show HT.sIx (cs.map fun p => eI [p.1, p.2]).length 0 none = 0 from rfl, show (some 20 : Option Int) = some ((20 : Nat) : Int) from rfl, HT.sIx_nat, List.drop_zero, Nat.sub_zero, List.length_map, List.map_take]
  rw [List.take_eq_take_iff]
  simp
theorem Dr.of {m : Nat} {ps cs : List (Int × Int)} (h1 : 1 ≤ m) (h2 : m ≤ 10) (hp : PrOk m m ps) (hc : PrOk m m cs) : Dr m ps (prL (cs.take 20)) := by
  refine ⟨h1, h2, fun p h => by have := hp.bd p h; omega, hp.asc, fun c hc' => ?_, ?_, ?_⟩
  · obtain ⟨p, h, rfl⟩ := List.mem_map.mp hc'
    have := hc.bd p (List.mem_of_mem_take h)
    refine ⟨?_, by simp⟩
    simp [lotB]
    omega
  · unfold prL
    rw [List.map_take]
    exact hc.asc.sublist (List.take_sublist _ _)
  · unfold prL
    simp
    omega
theorem gN_bind {β : Type} (i : Nat) (d : D) (e : En) (b : En → T β) : (gN i d e).bind b = b (e.set i (some d)) := rfl
theorem wpOk {α : Type} (a : α) (n : Nat) (Q : α → Nat → Prop) (E : Ex → Nat → Prop) : (T.ok a).wp n Q E = Q a n := rfl
theorem sqK_nx (t : En → T Fl) (e : En) : sqK t (.nx e) = t e := rfl
theorem rng_get {m j : Nat} {z : Int} (h : (rng m)[j]? = some z) : z = j ∧ j < m := by
  unfold rng at h
  rw [List.getElem?_map] at h
  obtain ⟨k, hk, rfl⟩ := Option.map_eq_some_iff.mp h
  obtain ⟨h1, h2⟩ := List.getElem?_eq_some_iff.mp hk
  rw [List.getElem_range] at h2
  rw [List.length_range] at h1
  exact ⟨by rw [h2], h1⟩
theorem drawing_wp {lo hi : Int} {n : Nat} {E : Ex → Nat → Prop} {t : T D} (ht : d_w_drawing [.dict [], .int lo, .int hi] = t) (h1 : 1 ≤ lo) (h2 : lo ≤ hi) (h3 : hi ≤ 10) (hn : n ≤ 400000) : t.wp n (fun d n' => n' ≤ n + 300 ∧ ∃ m ps ca, d = eD m ps ca ∧ Dr m ps ca ∧ m ≤ hi) E := by
  subst ht
  unfold d_w_drawing t_w_drawing
  walk_at "ev"
  refine ⟨by unfold T.cap; omega, by omega, by omega, fun r r0 r1 => ?_⟩
  obtain ⟨m, hm⟩ : ∃ m : Nat, (lo : Int) + r = m := ⟨((lo : Int) + r).toNat, by omega⟩
  dsimp only
  rw [mkL_ok [] (by simp)]
  walk_at "ev"
  rw [hm, dRg1_ok (by omega)]
  walk_at "ev"
  rw [T.wp_bind, T.wp_bind]
  have hmhi : m ≤ 10 := by omega
  refine forL_wp (fun i e k => DwI m (n + 1) i e k) _ 0 _ (n + 1) ⟨⟨lo, hi, [], [], none, none, rfl, .nil _ _, .nil _ _, by simp, by simp, by omega⟩⟩ (fun j x e k hx hI => ?_) fun e k hI => ?_
  · rw [Nat.zero_add] at hI ⊢
    obtain ⟨lo', hi', ps, cs, u, v, rfl, hp, hc, lp, lc, hk⟩ := hI.ex
    rw [List.getElem?_map] at hx
    obtain ⟨z, hz, rfl⟩ := Option.map_eq_some_iff.mp hx
    obtain ⟨rfl, hjl⟩ := rng_get hz
    rw [gN_bind]
    rw [sSq_a, sSet_a, f2_a]
    simp only [List.set_cons_succ, List.set_cons_zero]
    rw [fVar_a]
    simp (decide := false) (implicitDefEqProofs := false) only [List.getElem?_cons_succ, List.getElem?_cons_zero, isOwn, Bool.false_eq_true, if_false, T.ok_bind]
    rw [T.wp_bind, T.wp_bind, T.wp_bind]
    generalize hE : ([some (.dict []), some (.int lo'), some (.int hi'), some (.int m), some (PyData.list (List.map (fun p => eI [p.fst, p.snd]) ps)), some (PyData.list (List.map (fun p => eI [p.fst, p.snd]) cs)), some (.int (j : Nat)), v] : En) = e1
    refine comp_wp m j 2 (n := k) (by omega) (by omega) (by omega) hmhi ⟨lo', hi', _, _, v, hE.symm⟩ (by omega) fun fs f1 f2 f3 => ?_
    have e1 : (fs.map fun f => eI [(j : Int), f]) = (fs.map fun f => ((j : Int), f)).map fun p => eI [p.1, p.2] := by
      rw [List.map_map]
      rfl
    rw [e1, oAdd_lst _ _ (by simp; omega), ← List.map_append]
    have hp2 := hp.add (by omega) f1 f2
    have lp2 : (ps ++ fs.map fun f => ((j : Int), f)).length ≤ 10 * (j + 1) := by simp; omega
    generalize (ps ++ fs.map fun f => ((j : Int), f)) = ps2 at hp2 lp2
    rw [wpOk, wpOk, sqK_nx, sSet_a, f2_a, fVar_a]
    simp (decide := false) (implicitDefEqProofs := false) only [List.getElem?_cons_succ, List.getElem?_cons_zero, isOwn, Bool.false_eq_true, if_false, T.ok_bind]
    rw [T.wp_bind, T.wp_bind]
    generalize hE : ([some (.dict []), some (.int lo'), some (.int hi'), some (.int m), some (PyData.list (List.map (fun p => eI [p.fst, p.snd]) ps2)), some (PyData.list (List.map (fun p => eI [p.fst, p.snd]) cs)), some (.int (j : Nat)), v] : En) = e2
    refine comp_wp m j 6 (by omega) (by omega) (by omega) hmhi ⟨lo', hi', _, _, v, hE.symm⟩ (by omega) fun fs f1 f2 f3 => ?_
    have e1 : (fs.map fun f => eI [(j : Int), f]) = (fs.map fun f => ((j : Int), f)).map fun p => eI [p.1, p.2] := by
      rw [List.map_map]
      rfl
    rw [e1, oAdd_lst _ _ (by simp; omega), ← List.map_append]
    have hc2 := hc.add (by omega) f1 f2
    have lc2 : (cs ++ fs.map fun f => ((j : Int), f)).length ≤ 10 * (j + 1) := by simp; omega
    generalize (cs ++ fs.map fun f => ((j : Int), f)) = cs2 at hc2 lc2
    rw [wpOk, wpOk]
    subst hE
    exact ⟨⟨lo', hi', ps2, cs2, _, _, rfl, hp2, hc2, lp2, lc2, by omega⟩⟩
  · rw [Nat.zero_add, List.length_map, rng_len] at hI
    obtain ⟨lo', hi', ps, cs, u, v, rfl, hp, hc, lp, lc, hk⟩ := hI.ex
    rw [sqK_nx]
    walk_at "ev"
    rw [oSl, lst_sl20]
    walk_at "ev"
    rw [mkT_ok _ (by simp)]
    show _ ∧ _
    refine ⟨by omega, m, ps, prL (cs.take 20), ?_, Dr.of (by omega) hmhi hp hc, by omega⟩
    unfold eD eP eC prL
    rw [List.map_map]
    rfl
end L24
set_option Elab.async false
set_option linter.all false
set_option maxRecDepth 100000
set_option maxHeartbeats 8000000
namespace L24
open PySem L2 PL PG
local macro_rules | `(tactic| walk_at "gen") => `(tactic| simp (decide := false) (implicitDefEqProofs := false) only [gYes, gBv, gIn, gLoc, gFree, gEq, gAnd, gIsT, gInt, tyD, isOwn, flatD, all_flat, any_eqv, Function.comp_apply, List.getElem?_cons_zero, List.getElem?_cons_succ, Option.bind_some, Option.map_some, Bool.and_self, if_true, if_false, Bool.false_eq_true, reduceIte, decide_true, Bool.and_true, Bool.true_and])
local macro_rules | `(tactic| walk_at "ev") => `(tactic| simp (decide := false) (implicitDefEqProofs := false) only [fnD, runD, startE, endD, sqK, sqR, relE, rel1, unown, noX, asB, asI, oTru, oIsT, tyD, oLen, oInt, oTupOf, oListOf, gN, gT, gsC, gsN, dSeq, dRev, isOwn, wipeE, ↓sNx_a, ↓sSq_a, ↓sIf_a, ↓sSet_a, ↓sAsg_a, ↓sRet_a, ↓sRetN_a, ↓sDrop_a, ↓sBad_a, ↓sFor_a, ↓sBk_a, ↓sCt_a, ↓sPar_a, ↓sOwS_a, ↓sSqR_a, ↓sRel_a, ↓sOwL_a, ↓oSAdd_a, ↓oApp_a, ↓oSetI_a, ↓fVar_a, ↓fC_a, ↓f1_a, ↓f2_a, ↓fB_a, ↓fTru_a, ↓bNot_a, ↓bAnd_a, ↓bOr_a, ↓bYes_a, ↓fNot_a, ↓fAnd_a, ↓fOr_a, ↓fIf_a, ↓aNil_a, ↓aCons_a, ↓fTup_a, ↓fLst_a, ↓fCall_a, ↓oCh_a, ↓iSeq_a, ↓iRg_a, ↓iOf_a, ↓fLc_a, ↓fSl_a, ↓fo0_a, ↓fo1_a, ↓fTupRg_a, ↓fLstRg_a, ↓fLenSet_a, ↓fSortSet_a, ↓nLst_a, ↓nLc_a, ↓fSIn_a, ↓fSSort_a, ↓fSLen_a, ↓fLLen_a, ↓fLTup_a, ↓fLIx_a, ↓fG1_a, ↓fG2_a, ↓iPrs_a, ↓iEnG_a, T.ok_bind, T.bad_bind, T.exc_bind, T.draw_bind,
  List.length_cons, List.length_nil, List.map_cons, List.map_nil, List.length_map, List.length_replicate, Nat.reduceAdd, Nat.reduceSub, Nat.sub_self, List.replicate_zero, List.append_nil, List.cons_append, List.nil_append, List.replicate_succ, List.getElem?_cons_zero, List.getElem?_cons_succ, List.set_cons_zero, List.set_cons_succ, if_true, if_false, Bool.false_eq_true, Bool.not_true, Bool.not_false, reduceIte, reduceCtorEq, decide_true, decide_false, Bool.true_and, Bool.and_true, Bool.false_and, Bool.and_false, Bool.or_true, Bool.or_false, Bool.true_or, Bool.false_or, eq_self, cast0, cast1, cast2, cast3, cast4, cast5, oLe_int, oLt_int, oGt_int, oGe_int, oAdd_int, oSub_int, oEq_int, oNe_int, oIn_tup, oIn_lst, bool_and, bool_or, t_and, t_or, oLe_tup, oLt_tup, dDraw_ok, ixT0, ixL0, ixT1, ixL1, ixT2, ixL2, ixT3, ixL3, ixT4, ixL4, ixT5, ixL5, ixT6, ixL6, ixT7, ixL7])


def pick (ks : List Int) (c : Int) : List Int := ((ks.zipIdx).filter fun p => decide (p.1 = c)).map fun p => (p.2 : Int)
theorem mem_pick {ks : List Int} {c x : Int} : x ∈ pick ks c ↔ ∃ i : Nat, x = i ∧ ks[i]? = some c := by
  unfold pick
  simp only [List.mem_map, List.mem_filter, decide_eq_true_eq]
  constructor
  · rintro ⟨⟨a, i⟩, ⟨h1, h2⟩, rfl⟩
    exact ⟨i, rfl, by rw [List.mem_zipIdx_iff_getElem?] at h1; rw [h1]; simpa using h2⟩
  · rintro ⟨i, rfl, h⟩
    exact ⟨(c, i), ⟨by rw [List.mem_zipIdx_iff_getElem?]; exact h, rfl⟩, rfl⟩
theorem pick_lot {ks : List Int} {m : Nat} (h : ks.length = m) (c : Int) : Lot m (pick ks c) := by
  refine ⟨?_, fun x hx => ?_⟩
  · unfold pick
    rw [List.pairwise_map]
    refine List.Pairwise.sublist List.filter_sublist ?_
    have : ((ks.zipIdx).map Prod.snd).Pairwise (· < ·) := by
      rw [List.zipIdx_map_snd]
      exact List.pairwise_lt_range'
    rw [List.pairwise_map] at this
    exact this.imp fun h => by omega
  · obtain ⟨i, rfl, hi⟩ := mem_pick.mp hx
    obtain ⟨h1, _⟩ := List.getElem?_eq_some_iff.mp hi
    omega
theorem pick_ne {ks : List Int} {c d x : Int} (h : c ≠ d) (hx : x ∈ pick ks c) : x ∉ pick ks d := fun hy => by
  obtain ⟨i, rfl, hi⟩ := mem_pick.mp hx
  obtain ⟨j, hj, hd⟩ := mem_pick.mp hy
  have : i = j := by omega
  subst this
  rw [hi] at hd
  exact h (Option.some.inj hd)
theorem kinds_lc (ks : List Int) (c : Int) (a b : Option D) (x y z w v : Option D) (e : En) (he : e = [a, b, x, none, y, none, some (.int c), w]) : lcL (gT 2 (gsC (gN 3) (gsC (gN 5) gsN))) (fB (f2 oEq (fVar 5) (fVar 6))) (fVar 3) e (enD (ks.map .int)) = .ok ((pick ks c).map .int) := by
  subst he
  have e1 : enD (ks.map PyData.int) = (ks.zipIdx).map fun p : Int × Nat => .tuple [.int (p.2 : Nat), .int p.1] := by
    simp only [enD, List.zipIdx_map, List.map_map]
    rfl
  rw [e1, lcL_ok (p := fun p : Int × Nat => decide (p.1 = c)) (y := fun p => .int (p.2 : Nat))]
  · unfold pick
    rw [List.map_map]
    rfl
  · rintro ⟨k, i⟩ hk
    refine ⟨[a, b, x, some (.int (i : Nat)), y, some (.int k), some (.int c), w], rfl, ?_, fun _ => ?_⟩
    · walk_at "ev"
    · walk_at "ev"
theorem question_wp {m n : Nat} {ps : List (Int × Int)} {ca : List (List Int)} {E : Ex → Nat → Prop} {t : T D} (ht : d_w_question [.dict [], eD m ps ca] = t) (dr : Dr m ps ca) (hn : n ≤ 400000) : t.wp n (fun d n' => n' ≤ n + 100 ∧ ∃ tried set seen asked, d = eQ m ps ca tried set seen asked ∧ Qu m ps ca tried set seen asked) E := by
  have m1 := dr.m1
  have m10 := dr.m10
  subst ht
  unfold d_w_question t_w_question
  walk_at "ev"
  rw [dRg1_ok (by omega)]
  walk_at "ev"
  rw [T.wp_bind, T.wp_bind]
  refine lcL_ints .int (by decide) (by decide) (rng m) n (fun x hx => ⟨_, rfl, rfl⟩) (by rw [rng_len]; unfold T.cap; omega) fun ks hk hb => ?_
  rw [rng_len] at hk ⊢
  have e0 : lstAt [some (PyData.dict []), some (eD m ps ca), some (ownL (ks.map .int)), none, none, none, none, none] 2 = some (ks.map .int) := rfl
  rw [e0]
  dsimp only
  rw [T.draw_bind]
  refine ⟨by unfold T.cap; omega, by omega, by omega, fun j j0 j1 => ?_⟩
  obtain ⟨j, rfl⟩ : ∃ i : Nat, j = i := ⟨j.toNat, by omega⟩
  dsimp only
  rw [ixN_nat (by rw [List.length_map]; omega)]
  dsimp only
  rw [← List.map_set]
  have hk2 : (ks.set j 2).length = m := by simpa using hk
  have h2 : (j : Int) ∈ pick (ks.set j 2) 2 := mem_pick.mpr ⟨j, rfl, by rw [List.getElem?_set_self (by omega)]⟩
  generalize ks.set j 2 = ks2 at hk2 h2
  walk_at "ev"
  simp (decide := false) (implicitDefEqProofs := false) only [ownL]
  rw [show dRg1 [PyData.int 3] = .ok (([0, 1, 2] : List Int).map .int) from rfl]
  walk_at "ev"
  have el : lcL (gN 6) bYes (f1 oTupOf (fLc (iRg dEnum (aCons (fVar 2) aNil)) (gT 2 (gsC (gN 3) (gsC (gN 5) gsN))) (fB (f2 oEq (fVar 5) (fVar 6))) (fVar 3) [3, 5]))
      [some (PyData.dict []), some (eD m ps ca), some (.list (ks2.map .int)), none, none, none, none, none] (([0, 1, 2] : List Int).map .int) = .ok ((([0, 1, 2] : List Int).filter fun _ => true).map fun c => eI (pick ks2 c)) := by
    refine lcL_ok _ _ _ _ fun c hc => ⟨[some (PyData.dict []), some (eD m ps ca), some (.list (ks2.map .int)), none, none, none, some (.int c), none], rfl, rfl, fun _ => ?_⟩
    walk_at "ev"
    simp (decide := false) (implicitDefEqProofs := false) only [dEnum]
    walk_at "ev"
    rw [kinds_lc ks2 c _ _ _ none none none none _ rfl]
    walk_at "ev"
  rw [show [PyData.int 0, PyData.int 1, PyData.int 2] = ([0, 1, 2] : List Int).map .int from rfl, el]
  rw [show (([0, 1, 2] : List Int).filter fun _ => true).map (fun c => eI (pick ks2 c)) = [eI (pick ks2 0), eI (pick ks2 1), eI (pick ks2 2)] from rfl]
  walk_at "ev"
  rw [T.wp_bind, T.wp_bind, T.wp_bind, T.wp_bind]
  have L0 := pick_lot hk2 0
  have L1 := pick_lot hk2 1
  have L2 := pick_lot hk2 2
  refine lcL_sub .int .int (L := 4) (by decide) (by decide) (pick ks2 0) _ (fun x hx => ?_) (by have := L0.len; unfold T.cap; omega) fun zs hz => ?_
  · refine ⟨_, fun r => decide (r = 0), rfl, ?_, ?_⟩
    · walk_at "ev"
    · walk_at "ev"
  · rw [wpOk]
    walk_at "ev"
    rw [wpOk, wpOk]
    dsimp only
    walk_at "ev"
    rw [mkT_ok _ (by simp)]
    walk_at "ev"
    rw [wpOk]
    dsimp only
    rw [wpOk]
    have l0 := L0.len
    refine ⟨by omega, zs, pick ks2 0, pick ks2 1, pick ks2 2, rfl, dr, ?_, L0, L1, L2, ?_, ?_, ?_, ?_, ?_⟩
    · exact ⟨L0.asc.sublist hz, fun x hx => L0.bd x (hz.subset hx)⟩
    · intro e
      rw [e] at h2
      cases h2
    · exact fun x hx => hz.subset hx
    · exact fun x hx => pick_ne (by decide) hx
    · exact fun x hx => pick_ne (by decide) hx
    · exact fun x hx => pick_ne (by decide) hx
end L24
set_option Elab.async false
set_option linter.all false
set_option maxRecDepth 100000
set_option maxHeartbeats 8000000
namespace L24
open PySem L2 PL PG
local macro_rules | `(tactic| walk_at "gen") => `(tactic| simp (decide := false) (implicitDefEqProofs := false) only [gYes, gBv, gIn, gLoc, gFree, gEq, gAnd, gIsT, gInt, tyD, isOwn, flatD, all_flat, any_eqv, Function.comp_apply, List.getElem?_cons_zero, List.getElem?_cons_succ, Option.bind_some, Option.map_some, Bool.and_self, if_true, if_false, Bool.false_eq_true, reduceIte, decide_true, Bool.and_true, Bool.true_and])
local macro_rules | `(tactic| walk_at "ev") => `(tactic| simp (decide := false) (implicitDefEqProofs := false) only [fnD, runD, startE, endD, sqK, sqR, relE, rel1, unown, noX, asB, asI, oTru, oIsT, tyD, oLen, oInt, oTupOf, oListOf, gN, gT, gsC, gsN, dSeq, dRev, isOwn, wipeE, ↓sNx_a, ↓sSq_a, ↓sIf_a, ↓sSet_a, ↓sAsg_a, ↓sRet_a, ↓sRetN_a, ↓sDrop_a, ↓sBad_a, ↓sFor_a, ↓sBk_a, ↓sCt_a, ↓sPar_a, ↓sOwS_a, ↓sSqR_a, ↓sRel_a, ↓sOwL_a, ↓oSAdd_a, ↓oApp_a, ↓oSetI_a, ↓fVar_a, ↓fC_a, ↓f1_a, ↓f2_a, ↓fB_a, ↓fTru_a, ↓bNot_a, ↓bAnd_a, ↓bOr_a, ↓bYes_a, ↓fNot_a, ↓fAnd_a, ↓fOr_a, ↓fIf_a, ↓aNil_a, ↓aCons_a, ↓fTup_a, ↓fLst_a, ↓fCall_a, ↓oCh_a, ↓iSeq_a, ↓iRg_a, ↓iOf_a, ↓fLc_a, ↓fSl_a, ↓fo0_a, ↓fo1_a, ↓fTupRg_a, ↓fLstRg_a, ↓fLenSet_a, ↓fSortSet_a, ↓nLst_a, ↓nLc_a, ↓fSIn_a, ↓fSSort_a, ↓fSLen_a, ↓fLLen_a, ↓fLTup_a, ↓fLIx_a, ↓fG1_a, ↓fG2_a, ↓iPrs_a, ↓iEnG_a, T.ok_bind, T.bad_bind, T.exc_bind, T.draw_bind,
  List.length_cons, List.length_nil, List.map_cons, List.map_nil, List.length_map, List.length_replicate, Nat.reduceAdd, Nat.reduceSub, Nat.sub_self, List.replicate_zero, List.append_nil, List.cons_append, List.nil_append, List.replicate_succ, List.getElem?_cons_zero, List.getElem?_cons_succ, List.set_cons_zero, List.set_cons_succ, if_true, if_false, Bool.false_eq_true, Bool.not_true, Bool.not_false, reduceIte, reduceCtorEq, decide_true, decide_false, Bool.true_and, Bool.and_true, Bool.false_and, Bool.and_false, Bool.or_true, Bool.or_false, Bool.true_or, Bool.false_or, eq_self, cast0, cast1, cast2, cast3, cast4, cast5, oLe_int, oLt_int, oGt_int, oGe_int, oAdd_int, oSub_int, oEq_int, oNe_int, oIn_tup, oIn_lst, bool_and, bool_or, t_and, t_or, oLe_tup, oLt_tup, dDraw_ok, ixT0, ixL0, ixT1, ixL1, ixT2, ixL2, ixT3, ixL3, ixT4, ixL4, ixT5, ixL5, ixT6, ixL6, ixT7, ixL7])


theorem Com.more {ps : List (Int × Int)} {lot lot' goal goal' : List Int} (h2 : ∀ x ∈ lot, x ∈ lot') (h3 : ∀ x ∈ goal, x ∈ goal') {x : Int} (h : Com ps lot goal x) : Com ps lot' goal' x := by
  induction h with
  | base h => exact .base (h3 _ h)
  | step a b _ ih => exact .step a (h2 _ b) ih
abbrev cG : D → En → T En := gT 2 (gsC (gN 4) (gsC (gN 5) gsN))
abbrev cB (r : List D → T D) : En → T Fl := sIf (bAnd (fB (f2 oEq (fVar 4) (fVar 2))) (bAnd (fB (f2 (oIn false) (fVar 5) (fVar 1))) (fTru (fCall r (aCons (fVar 0) (aCons (fVar 1) (aCons (fVar 5) (aCons (fVar 3) aNil)))))))) (sRet (fC (.bool true))) sNx
theorem comes_go {r : List D → T D} {ps : List (Int × Int)} {out tg : List Int} {spot : Int} : ∀ (qs : List (Int × Int)), (∀ p ∈ qs, p.1 = spot → p.2 ∈ out → ∃ b, r [eP ps, .list (out.map .int), .int p.2, eI tg] = .ok (.bool b) ∧ (b = true ↔ Com ps out tg p.2)) → ∀ u v : Option D,
    (forL cG (cB r) (qs.map fun p => eI [p.1, p.2]) [some (eP ps), some (.list (out.map .int)), some (.int spot), some (eI tg), u, v] = .ok (.rt (.bool true)) ∧ ∃ p ∈ qs, p.1 = spot ∧ p.2 ∈ out ∧ Com ps out tg p.2) ∨
    ((∃ u' v', forL cG (cB r) (qs.map fun p => eI [p.1, p.2]) [some (eP ps), some (.list (out.map .int)), some (.int spot), some (eI tg), u, v] = .ok (.nx [some (eP ps), some (.list (out.map .int)), some (.int spot), some (eI tg), u', v'])) ∧ ∀ p ∈ qs, p.1 = spot → p.2 ∈ out → ¬ Com ps out tg p.2)
  | [], _, u, v => .inr ⟨⟨u, v, rfl⟩, fun p h => by cases h⟩
  | p :: qs, h, u, v => by
    have ih := comes_go (r := r) qs (fun q hq => h q (List.mem_cons_of_mem _ hq)) (some (.int p.1)) (some (.int p.2))
    have skip : (forL cG (cB r) ((p :: qs).map fun p => eI [p.1, p.2]) [some (eP ps), some (.list (out.map .int)), some (.int spot), some (eI tg), u, v] = forL cG (cB r) (qs.map fun p => eI [p.1, p.2]) [some (eP ps), some (.list (out.map .int)), some (.int spot), some (eI tg), some (.int p.1), some (.int p.2)]) → (p.1 = spot → p.2 ∈ out → ¬ Com ps out tg p.2) →
      ((forL cG (cB r) ((p :: qs).map fun p => eI [p.1, p.2]) [some (eP ps), some (.list (out.map .int)), some (.int spot), some (eI tg), u, v] = .ok (.rt (.bool true)) ∧ ∃ p' ∈ p :: qs, p'.1 = spot ∧ p'.2 ∈ out ∧ Com ps out tg p'.2) ∨
    ((∃ u' v', forL cG (cB r) ((p :: qs).map fun p => eI [p.1, p.2]) [some (eP ps), some (.list (out.map .int)), some (.int spot), some (eI tg), u, v] = .ok (.nx [some (eP ps), some (.list (out.map .int)), some (.int spot), some (eI tg), u', v'])) ∧ ∀ p' ∈ p :: qs, p'.1 = spot → p'.2 ∈ out → ¬ Com ps out tg p'.2)) := by
      intro e no
      rw [e]
      rcases ih with ⟨i1, q, hq, i2⟩ | ⟨i1, i2⟩
      · exact .inl ⟨i1, q, List.mem_cons_of_mem _ hq, i2⟩
      · refine .inr ⟨i1, fun q hq => ?_⟩
        rcases List.mem_cons.mp hq with rfl | hq
        · exact no
        · exact i2 q hq
    by_cases h1 : p.1 = spot
    · by_cases h2 : p.2 ∈ out
      · obtain ⟨b, hb, hc⟩ := h p List.mem_cons_self h1 h2
        cases b with
        | true =>
          refine .inl ⟨?_, p, List.mem_cons_self, h1, h2, hc.mp rfl⟩
          rw [List.map_cons, forL]
          walk_at "ev"
          simp (decide := false) (implicitDefEqProofs := false) only [h1, h2, decide_true, if_true, hb, noX_ok]
          walk_at "ev"
        | false =>
          refine skip ?_ fun _ _ hC => by simpa using hc.mpr hC
          rw [List.map_cons, forL]
          walk_at "ev"
          simp (decide := false) (implicitDefEqProofs := false) only [h1, h2, decide_true, if_true, hb, noX_ok]
          walk_at "ev"
      · refine skip ?_ fun _ z => absurd z h2
        rw [List.map_cons, forL]
        walk_at "ev"
        simp (decide := false) (implicitDefEqProofs := false) only [h1, h2, decide_true, decide_false, if_true, if_false, Bool.false_eq_true]
        walk_at "ev"
    · refine skip ?_ fun z => absurd z h1
      rw [List.map_cons, forL]
      walk_at "ev"
      simp (decide := false) (implicitDefEqProofs := false) only [h1, decide_false, if_false, Bool.false_eq_true]
      walk_at "ev"
theorem comes_ok {m : Nat} {ps : List (Int × Int)} {out tg : List Int} (pb : ∀ p ∈ ps, 0 ≤ p.1 ∧ p.1 < p.2 ∧ p.2 < m) : ∀ (i : Nat) (spot : Int), 0 ≤ spot → spot < m → m ≤ spot + i → ∃ b, d_w_comes i [eP ps, .list (out.map .int), .int spot, eI tg] = .ok (.bool b) ∧ (b = true ↔ Com ps out tg spot)
  | 0, spot, h0, h1, h2 => by omega
  | i + 1, spot, h0, h1, h2 => by
    rw [d_w_comes]
    unfold t_w_comes
    by_cases ht : spot ∈ tg
    · refine ⟨true, ?_, fun _ => .base ht, fun _ => rfl⟩
      walk_at "ev"
      simp (decide := false) (implicitDefEqProofs := false) only [ht, decide_true, if_true]
      walk_at "ev"
    · rcases comes_go (r := d_w_comes i) (ps := ps) (out := out) (tg := tg) (spot := spot) ps (fun p hp e _ => comes_ok pb i p.2 (by have := pb p hp; omega) (by have := pb p hp; omega) (by have := pb p hp; omega)) none none with ⟨e, p, hp, h3, h4, h5⟩ | ⟨⟨u', v', e⟩, no⟩
      · refine ⟨true, ?_, fun _ => .step (y := p.2) (by rw [← h3]; exact hp) h4 h5, fun _ => rfl⟩
        walk_at "ev"
        simp (decide := false) (implicitDefEqProofs := false) only [ht, decide_false, if_false, Bool.false_eq_true]
        walk_at "ev"
        rw [e]
        walk_at "ev"
      · refine ⟨false, ?_, fun z => (by cases z), fun hC => ?_⟩
        · walk_at "ev"
          simp (decide := false) (implicitDefEqProofs := false) only [ht, decide_false, if_false, Bool.false_eq_true]
          walk_at "ev"
          rw [e]
          walk_at "ev"
        · cases hC with
          | base h => exact absurd h ht
          | step a b c => exact absurd c (no _ a rfl b)
end L24
set_option Elab.async false
set_option linter.all false
set_option maxRecDepth 100000
set_option maxHeartbeats 8000000
namespace L24
open PySem L2 PL PG
local macro_rules | `(tactic| walk_at "gen") => `(tactic| simp (decide := false) (implicitDefEqProofs := false) only [gYes, gBv, gIn, gLoc, gFree, gEq, gAnd, gIsT, gInt, tyD, isOwn, flatD, all_flat, any_eqv, Function.comp_apply, List.getElem?_cons_zero, List.getElem?_cons_succ, Option.bind_some, Option.map_some, Bool.and_self, if_true, if_false, Bool.false_eq_true, reduceIte, decide_true, Bool.and_true, Bool.true_and])
local macro_rules | `(tactic| walk_at "ev") => `(tactic| simp (decide := false) (implicitDefEqProofs := false) only [fnD, runD, startE, endD, sqK, sqR, relE, rel1, unown, noX, asB, asI, oTru, oIsT, tyD, oLen, oInt, oTupOf, oListOf, gN, gT, gsC, gsN, dSeq, dRev, isOwn, wipeE, ↓sNx_a, ↓sSq_a, ↓sIf_a, ↓sSet_a, ↓sAsg_a, ↓sRet_a, ↓sRetN_a, ↓sDrop_a, ↓sBad_a, ↓sFor_a, ↓sBk_a, ↓sCt_a, ↓sPar_a, ↓sOwS_a, ↓sSqR_a, ↓sRel_a, ↓sOwL_a, ↓oSAdd_a, ↓oApp_a, ↓oSetI_a, ↓fVar_a, ↓fC_a, ↓f1_a, ↓f2_a, ↓fB_a, ↓fTru_a, ↓bNot_a, ↓bAnd_a, ↓bOr_a, ↓bYes_a, ↓fNot_a, ↓fAnd_a, ↓fOr_a, ↓fIf_a, ↓aNil_a, ↓aCons_a, ↓fTup_a, ↓fLst_a, ↓fCall_a, ↓oCh_a, ↓iSeq_a, ↓iRg_a, ↓iOf_a, ↓fLc_a, ↓fSl_a, ↓fo0_a, ↓fo1_a, ↓fTupRg_a, ↓fLstRg_a, ↓fLenSet_a, ↓fSortSet_a, ↓nLst_a, ↓nLc_a, ↓fSIn_a, ↓fSSort_a, ↓fSLen_a, ↓fLLen_a, ↓fLTup_a, ↓fLIx_a, ↓fG1_a, ↓fG2_a, ↓iPrs_a, ↓iEnG_a, T.ok_bind, T.bad_bind, T.exc_bind, T.draw_bind,
  List.length_cons, List.length_nil, List.map_cons, List.map_nil, List.length_map, List.length_replicate, Nat.reduceAdd, Nat.reduceSub, Nat.sub_self, List.replicate_zero, List.append_nil, List.cons_append, List.nil_append, List.replicate_succ, List.getElem?_cons_zero, List.getElem?_cons_succ, List.set_cons_zero, List.set_cons_succ, if_true, if_false, Bool.false_eq_true, Bool.not_true, Bool.not_false, reduceIte, reduceCtorEq, decide_true, decide_false, Bool.true_and, Bool.and_true, Bool.false_and, Bool.and_false, Bool.or_true, Bool.or_false, Bool.true_or, Bool.false_or, eq_self, cast0, cast1, cast2, cast3, cast4, cast5, oLe_int, oLt_int, oGt_int, oGe_int, oAdd_int, oSub_int, oEq_int, oNe_int, oIn_tup, oIn_lst, bool_and, bool_or, t_and, t_or, oLe_tup, oLt_tup, dDraw_ok, ixT0, ixL0, ixT1, ixL1, ixT2, ixL2, ixT3, ixL3, ixT4, ixL4, ixT5, ixL5, ixT6, ixL6, ixT7, ixL7])


theorem wpNoX {α : Type} : ∀ {t : T α} {n : Nat} {Q : α → Nat → Prop} {E : Ex → Nat → Prop}, t.wp n Q (fun _ _ => False) → (noX t).wp n Q E
  | .ok _, _, _, _, h => h
  | .bad, _, _, _, h => h
  | .exc _, _, _, _, h => h.elim
  | .draw L k, _, _, _, h => ⟨h.1, h.2.1, h.2.2.1, fun r a b => wpNoX (h.2.2.2 r a b)⟩
open Classical in
theorem lc_comes {m : Nat} {ps : List (Int × Int)} {out tg : List Int} {a b c d e f : Option D} {x0 x1 : D} (hm : m ≤ 8) (pb : ∀ p ∈ ps, 0 ≤ p.1 ∧ p.1 < p.2 ∧ p.2 < m) (hd : c = some (.tuple [x0, eP ps, x1])) (ho : ∀ x ∈ out, 0 ≤ x ∧ x < m) (xs : List Int) (hxs : ∀ x ∈ xs, x ∈ out) :
    lcL (gN 8) (fTru (fCall (d_w_comes 9) (aCons (f2 oIx (fVar 2) (fC (.int 1))) (aCons (fVar 7) (aCons (fVar 8) (aCons (fVar 6) aNil)))))) (fVar 8) [a, b, c, d, e, f, some (eI tg), some (.list (out.map .int)), none] (xs.map .int) = .ok ((xs.filter fun x => decide (Com ps out tg x)).map .int) := by
  subst hd
  refine lcL_ok _ _ _ _ fun x hx => ⟨[a, b, some (.tuple [x0, eP ps, x1]), d, e, f, some (eI tg), some (.list (out.map .int)), some (.int x)], rfl, ?_, fun _ => ?_⟩
  · have hb := ho x (hxs x hx)
    obtain ⟨bo, h1, h2⟩ := comes_ok (out := out) (tg := tg) pb 9 x hb.1 hb.2 (by omega)
    walk_at "ev"
    rw [h1, noX_ok]
    walk_at "ev"
    cases bo with
    | true => rw [decide_eq_true (h2.mp rfl)]
    | false => rw [decide_eq_false (fun z => by simpa using h2.mpr z)]
  · walk_at "ev"
abbrev outL (m : Nat) (set told : List Int) : List Int := (rng m).filter fun x => !decide (x ∈ set) && !decide (x ∈ told)
abbrev tgL (seen asked told : List Int) : List Int := asked ++ seen.filter fun x => !decide (x ∈ told)
open Classical in
theorem due_ok {m : Nat} {ps : List (Int × Int)} {ca : List (List Int)} {tried set seen asked told : List Int} (q : Qu m ps ca tried set seen asked) (hm : m ≤ 8) :
    d_w_due [eQ m ps ca tried set seen asked, eI told] = .ok (eI ((outL m set told).filter fun x => decide (Com ps (outL m set told) (tgL seen asked told) x))) := by
  unfold d_w_due t_w_due
  walk_at "ev"
  rw [dRg1_ok (by omega)]
  walk_at "ev"
  rw [lcL_ok .int (fun x => !decide (x ∈ set) && !decide (x ∈ told)) .int (rng m) (fun x hx => ⟨_, rfl, (by walk_at "ev"), fun _ => (by walk_at "ev")⟩)]
  walk_at "ev"
  rw [lcL_ok .int (fun x => !decide (x ∈ told)) .int seen (fun x hx => ⟨_, rfl, (by walk_at "ev"), fun _ => (by walk_at "ev")⟩)]
  walk_at "ev"
  have l1 := List.length_filter_le (fun x => !decide (x ∈ told)) seen
  have l2 := q.s.len; have l3 := q.a.len
  rw [oAdd_tup _ _ (by rw [List.length_map, List.length_map]; omega), ← List.map_append]
  walk_at "ev"
  rw [lc_comes hm q.dr.pb rfl (fun x hx => mem_rng.mp (List.mem_filter.mp hx).1) _ (fun x hx => hx)]
  walk_at "ev"
theorem Lot.sub {m : Nat} {xs ys : List Int} (h : Lot m xs) (s : ys.Sublist xs) : Lot m ys := ⟨h.asc.sublist s, fun x hx => h.bd x (s.subset hx)⟩
theorem outL_lot (m : Nat) (set told : List Int) : Lot m (outL m set told) := ⟨(rng_asc m).sublist List.filter_sublist, fun x hx => mem_rng.mp (List.mem_filter.mp hx).1⟩
open Classical in
/-- what the goal is -/
theorem goal_due {m : Nat} {ps : List (Int × Int)} {ca : List (List Int)} {tried set seen asked told : List Int} (q : Qu m ps ca tried set seen asked) (hs : ∀ x ∈ told, x ∈ seen) :
    leadU ((rng m).filter fun x => !decide (x ∈ sortU (set ++ told))) (sortU ((seen.filter fun x => !decide (x ∈ told)) ++ asked)) ps = (outL m set told).filter fun x => decide (Com ps (outL m set told) (tgL seen asked told) x) := by
  have a1 : ∀ x, x ∈ ((rng m).filter fun x => !decide (x ∈ sortU (set ++ told))) ↔ x ∈ outL m set told := fun x => by
    unfold outL
    simp only [List.mem_filter, mem_sortU, List.mem_append, Bool.not_eq_true', decide_eq_false_iff_not, Bool.and_eq_true, not_or]
  have a2 : ∀ x, x ∈ sortU ((seen.filter fun x => !decide (x ∈ told)) ++ asked) ↔ x ∈ tgL seen asked told := fun x => by
    unfold tgL
    rw [mem_sortU, List.mem_append, List.mem_append]
    exact Or.comm
  have a3 : ∀ x ∈ sortU ((seen.filter fun x => !decide (x ∈ told)) ++ asked), x ∈ ((rng m).filter fun x => !decide (x ∈ sortU (set ++ told))) := fun x hx => by
    rw [a1]
    rw [a2] at hx
    unfold outL
    simp only [List.mem_filter, Bool.not_eq_true', decide_eq_false_iff_not, Bool.and_eq_true]
    rcases List.mem_append.mp hx with h | h
    · exact ⟨mem_rng.mpr (q.a.bd x h), q.ah x h, fun z => q.as x h (hs x z)⟩
    · have h := List.mem_filter.mp h
      exact ⟨mem_rng.mpr (q.s.bd x h.1), q.sh x h.1, by simpa using h.2⟩
  refine asc_ext (leadU_asc _ _ _) ((outL_lot _ _ _).asc.sublist List.filter_sublist) fun k => ?_
  rw [mem_leadU, mem_leadL q.dr.po (fun p hp => (q.dr.pb p hp).2.1), lead_iff a3, a1]
  refine Iff.trans ?_ List.mem_filter.symm
  rw [decide_eq_true_eq]
  refine and_congr_right fun _ => ⟨fun h => Com.more (fun x hx => (a1 x).mp hx) (fun x hx => (a2 x).mp hx) h, fun h => Com.more (fun x hx => (a1 x).mpr hx) (fun x hx => (a2 x).mpr hx) h⟩
/-! ### moves -/
structure MvI (seen : List Int) (n0 : Nat) (i : Nat) (e : En) (n : Nat) : Prop where
  ex : ∃ (fs ls : List (List Int)) (u v w : Option D), e = [some (eI seen), some (.list (fs.map eI)), some (.list (ls.map eI)), u, v, w, none] ∧ n = n0 ∧ ls.length ≤ 4 ^ i ∧ fs.length ≤ 300 * (i + 1) ∧ (∀ r ∈ fs ++ ls, r.Nodup ∧ ∀ x ∈ r, x ∈ seen)
abbrev nxt (s4 told : List Int) : List (List Int) := (s4.filter fun x => !decide (x ∈ told)).map fun x => told ++ [x]
abbrev mB : En → T Fl := sSet 4 (f2 oAdd (fVar 4) (fLc (iSeq (fSl (fVar 0) fo0 (fo1 (fC (.int 4))))) (gN 6) (fB (f2 (oIn true) (fVar 6) (fVar 5))) (f2 oAdd (fVar 5) (fTup (aCons (fVar 6) aNil))) [6]))
theorem sl4 (xs : List Int) : cutD (xs.map .int) none (some 4) = (xs.take 4).map .int := by
  unfold cutD
  rw [show HT.sIx (xs.map PyData.int).length 0 none = 0 from rfl, show (some 4 : Option Int) = some ((4 : Nat) : Int) from rfl, HT.sIx_nat, List.drop_zero, Nat.sub_zero, List.length_map, List.map_take]
  rw [List.take_eq_take_iff]
  simp
theorem moves_in {seen : List Int} {F L S : Option D} : ∀ (rows more : List (List Int)) (u : Option D), more.length + 4 * rows.length ≤ 1000 → (∀ r ∈ rows, r.length ≤ 100) → ∃ u', forL (gN 5) mB (rows.map eI) [some (eI seen), F, L, S, some (.list (more.map eI)), u, none] = .ok (.nx [some (eI seen), F, L, S, some (.list ((more ++ rows.flatMap (nxt (seen.take 4))).map eI)), u', none])
  | [], more, u, _, _ => ⟨u, by simp [forL]⟩
  | r :: rows, more, u, h, hr => by
    have l4 : (nxt (seen.take 4) r).length ≤ 4 := by
      unfold nxt
      have := List.length_filter_le (fun x => !decide (x ∈ r)) (seen.take 4)
      have := List.length_take_le 4 seen
      rw [List.length_map]
      omega
    rw [List.length_cons] at h
    obtain ⟨u', ih⟩ := moves_in (seen := seen) (F := F) (L := L) (S := S) rows (more ++ nxt (seen.take 4) r) (some (eI r)) (by rw [List.length_append]; omega) fun q hq => hr q (List.mem_cons_of_mem _ hq)
    refine ⟨u', ?_⟩
    have hrl := hr r List.mem_cons_self
    rw [List.map_cons, forL]
    walk_at "ev"
    rw [oSl, sl4]
    walk_at "ev"
    rw [lcL_ok .int (fun x => !decide (x ∈ r)) (fun x => eI (r ++ [x])) (seen.take 4) (fun x hx => ⟨_, rfl, (by walk_at "ev"), fun _ => (by
      walk_at "ev"
      rw [mkT_ok _ (by simp)]
      walk_at "ev"
      rw [oAdd_tup _ _ (by rw [List.length_map, List.length_cons, List.length_nil]; omega)]
      unfold eI
      rw [List.map_append]
      rfl)⟩)]
    walk_at "ev"
    have en : ((seen.take 4).filter fun x => !decide (x ∈ r)).map (fun x => eI (r ++ [x])) = (nxt (seen.take 4) r).map eI := by
      unfold nxt
      rw [List.map_map]
      rfl
    rw [en, oAdd_lst _ _ (by rw [List.length_map, List.length_map]; omega), ← List.map_append]
    walk_at "ev"
    rw [List.flatMap_cons, ← List.append_assoc]
    exact ih
theorem nodup_le {r seen : List Int} (h : r.Nodup) (s : ∀ x ∈ r, x ∈ seen) : r.length ≤ seen.length := h.length_le_of_subset s
theorem flat_len (s4 : List Int) (h4 : s4.length ≤ 4) : ∀ ls : List (List Int), (ls.flatMap (nxt s4)).length ≤ 4 * ls.length
  | [] => by simp
  | r :: ls => by
    have ih := flat_len s4 h4 ls
    have := List.length_filter_le (fun x => !decide (x ∈ r)) s4
    rw [List.flatMap_cons, List.length_append, List.length_map, List.length_cons]
    omega
theorem flat_ok {seen s4 : List Int} (hs : ∀ x ∈ s4, x ∈ seen) (ls : List (List Int)) (h : ∀ r ∈ ls, r.Nodup ∧ ∀ x ∈ r, x ∈ seen) : ∀ r ∈ ls.flatMap (nxt s4), r.Nodup ∧ ∀ x ∈ r, x ∈ seen := by
  intro r hr
  obtain ⟨t, ht, hr⟩ := List.mem_flatMap.mp hr
  obtain ⟨x, hx, rfl⟩ := List.mem_map.mp hr
  obtain ⟨h1, h2⟩ := List.mem_filter.mp hx
  have h2 : x ∉ t := by simpa using h2
  obtain ⟨a, b⟩ := h t ht
  refine ⟨?_, fun y hy => ?_⟩
  · rw [List.nodup_append]
    refine ⟨a, by simp, fun y hy z hz => ?_⟩
    have : z = x := by simpa using hz
    subst this
    rintro rfl
    exact h2 hy
  · rcases List.mem_append.mp hy with hy | hy
    · exact b y hy
    · have : y = x := by simpa using hy
      subst this
      exact hs y h1
theorem moves_wp {seen : List Int} {n : Nat} {E : Ex → Nat → Prop} {t : T D} (ht : d_w_moves [eI seen] = t) (hl : seen.length ≤ 10) : t.wp n (fun d n' => n' = n ∧ ∃ rows : List (List Int), d = .list (rows.map eI) ∧ ∀ r ∈ rows, r.Nodup ∧ ∀ x ∈ r, x ∈ seen) E := by
  subst ht
  unfold d_w_moves t_w_moves
  walk_at "ev"
  rw [mkT_ok [] (by simp)]
  walk_at "ev"
  rw [mkL_ok _ (by simp)]
  walk_at "ev"
  rw [show dRg1 [PyData.int 3] = .ok (([0, 1, 2] : List Int).map .int) from rfl]
  walk_at "ev"
  rw [T.wp_bind, T.wp_bind]
  refine forL_wp (fun i e k => MvI seen n i e k) _ 0 _ n ⟨⟨[[]], [[]], none, none, none, rfl, rfl, by decide, by decide, fun r hr => ?_⟩⟩ (fun j x e k hx hI => ?_) fun e k hI => ?_
  · have : r = [] := by simpa using hr
    subst this
    exact ⟨List.nodup_nil, fun x h => by cases h⟩
  · rw [Nat.zero_add] at hI ⊢
    obtain ⟨fs, ls, u, v, w, rfl, rfl, l1, l2, hr⟩ := hI.ex
    have hj : j < 3 := by
      have := (List.getElem?_eq_some_iff.mp hx).1
      simpa using this
    have l1' : ls.length ≤ 64 := Nat.le_trans l1 (Nat.pow_le_pow_right (by decide) (show j ≤ 3 by omega))
    rw [gN_bind]
    obtain ⟨u', hin⟩ := moves_in (seen := seen) (F := some (.list (fs.map eI))) (L := some (.list (ls.map eI))) (S := some x) ls [] w (by simp; omega) fun r h => Nat.le_trans (nodup_le (hr r (List.mem_append_right _ h)).1 (hr r (List.mem_append_right _ h)).2) (by omega)
    walk_at "ev"
    rw [mkL_ok _ (by simp)]
    walk_at "ev"
    simp (decide := false) (implicitDefEqProofs := false) only [List.map_nil, List.nil_append] at hin
    rw [hin]
    have fl := flat_len (seen.take 4) (List.length_take_le 4 seen) ls
    have hm := flat_ok (seen := seen) (s4 := seen.take 4) (fun x hx => List.mem_of_mem_take hx) ls fun r h => hr r (List.mem_append_right _ h)
    generalize ls.flatMap (nxt (seen.take 4)) = more at fl hm
    walk_at "ev"
    rw [oAdd_lst _ _ (by rw [List.length_map, List.length_map]; omega), ← List.map_append]
    walk_at "ev"
    rw [wpOk]
    refine ⟨⟨fs ++ more, more, _, _, _, rfl, rfl, by rw [Nat.pow_succ]; omega, by rw [List.length_append]; omega, fun r h => ?_⟩⟩
    rcases List.mem_append.mp h with h | h
    · rcases List.mem_append.mp h with h | h
      · exact hr r (List.mem_append_left _ h)
      · exact hm r h
    · exact hm r h
  · obtain ⟨fs, ls, u, v, w, rfl, rfl, l1, l2, hr⟩ := hI.ex
    walk_at "ev"
    rw [wpOk]
    dsimp only
    rw [wpOk]
    exact ⟨rfl, fs, rfl, fun r h => hr r (List.mem_append_left _ h)⟩
end L24
set_option Elab.async false
set_option linter.all false
set_option maxRecDepth 100000
set_option maxHeartbeats 8000000
namespace L24
open PySem L2 PL PG
local macro_rules | `(tactic| walk_at "gen") => `(tactic| simp (decide := false) (implicitDefEqProofs := false) only [gYes, gBv, gIn, gLoc, gFree, gEq, gAnd, gIsT, gInt, tyD, isOwn, flatD, all_flat, any_eqv, Function.comp_apply, List.getElem?_cons_zero, List.getElem?_cons_succ, Option.bind_some, Option.map_some, Bool.and_self, if_true, if_false, Bool.false_eq_true, reduceIte, decide_true, Bool.and_true, Bool.true_and])
local macro_rules | `(tactic| walk_at "ev") => `(tactic| simp (decide := false) (implicitDefEqProofs := false) only [fnD, runD, startE, endD, sqK, sqR, relE, rel1, unown, noX, asB, asI, oTru, oIsT, tyD, oLen, oInt, oTupOf, oListOf, gN, gT, gsC, gsN, dSeq, dRev, isOwn, wipeE, ↓sNx_a, ↓sSq_a, ↓sIf_a, ↓sSet_a, ↓sAsg_a, ↓sRet_a, ↓sRetN_a, ↓sDrop_a, ↓sBad_a, ↓sFor_a, ↓sBk_a, ↓sCt_a, ↓sPar_a, ↓sOwS_a, ↓sSqR_a, ↓sRel_a, ↓sOwL_a, ↓oSAdd_a, ↓oApp_a, ↓oSetI_a, ↓fVar_a, ↓fC_a, ↓f1_a, ↓f2_a, ↓fB_a, ↓fTru_a, ↓bNot_a, ↓bAnd_a, ↓bOr_a, ↓bYes_a, ↓fNot_a, ↓fAnd_a, ↓fOr_a, ↓fIf_a, ↓aNil_a, ↓aCons_a, ↓fTup_a, ↓fLst_a, ↓fCall_a, ↓oCh_a, ↓iSeq_a, ↓iRg_a, ↓iOf_a, ↓fLc_a, ↓fSl_a, ↓fo0_a, ↓fo1_a, ↓fTupRg_a, ↓fLstRg_a, ↓fLenSet_a, ↓fSortSet_a, ↓nLst_a, ↓nLc_a, ↓fSIn_a, ↓fSSort_a, ↓fSLen_a, ↓fLLen_a, ↓fLTup_a, ↓fLIx_a, ↓fG1_a, ↓fG2_a, ↓iPrs_a, ↓iEnG_a, T.ok_bind, T.bad_bind, T.exc_bind, T.draw_bind,
  List.length_cons, List.length_nil, List.map_cons, List.map_nil, List.length_map, List.length_replicate, Nat.reduceAdd, Nat.reduceSub, Nat.sub_self, List.replicate_zero, List.append_nil, List.cons_append, List.nil_append, List.replicate_succ, List.getElem?_cons_zero, List.getElem?_cons_succ, List.set_cons_zero, List.set_cons_succ, if_true, if_false, Bool.false_eq_true, Bool.not_true, Bool.not_false, reduceIte, reduceCtorEq, decide_true, decide_false, Bool.true_and, Bool.and_true, Bool.false_and, Bool.and_false, Bool.or_true, Bool.or_false, Bool.true_or, Bool.false_or, eq_self, cast0, cast1, cast2, cast3, cast4, cast5, oLe_int, oLt_int, oGt_int, oGe_int, oAdd_int, oSub_int, oEq_int, oNe_int, oIn_tup, oIn_lst, bool_and, bool_or, t_and, t_or, oLe_tup, oLt_tup, dDraw_ok, ixT0, ixL0, ixT1, ixL1, ixT2, ixL2, ixT3, ixL3, ixT4, ixL4, ixT5, ixL5, ixT6, ixL6, ixT7, ixL7])


theorem like_lot {m : Nat} {xs : List Int} (h : Lot m xs) (hm : m ≤ 10) : dLike [eI xs, eI xs] = .ok (.bool true) := by
  refine dLike_same ?_ (showB_of (G9.Shw.mono (G9.Shw.tuple (n := 2000) (k := 0) (m := 10) (fun d hd => ?_) ?_) (by decide) (by decide)))
  · simp only [pl]
    exact pls_ints xs
  · obtain ⟨i, hi, rfl⟩ := List.mem_map.mp hd
    have := h.bd i hi
    exact G9.Shw.int (by omega)
  · rw [List.length_map]
    exact Nat.le_trans h.len hm
theorem things_eq {m : Nat} {ps : List (Int × Int)} {ca : List (List Int)} {tried set seen asked : List Int} (q : Qu m ps ca tried set seen asked) : sortU (sortU (set ++ seen) ++ asked) = sortI (set ++ seen ++ asked) := by
  have nd : (set ++ seen ++ asked).Nodup := by
    rw [List.nodup_append, List.nodup_append]
    refine ⟨⟨asc_nodup q.h.asc, asc_nodup q.s.asc, fun a ha b hb e => q.sh b hb (e ▸ ha)⟩, asc_nodup q.a.asc, fun a ha b hb e => ?_⟩
    subst e
    rcases List.mem_append.mp ha with h | h
    · exact q.ah a hb h
    · exact q.as a hb h
  have nd2 : (sortI (set ++ seen ++ asked)).Nodup := (sortI_perm _).nodup_iff.mpr nd
  refine asc_ext (sortU_asc _) ?_ fun k => ?_
  · have := sortI_asc (set ++ seen ++ asked)
    exact (this.and nd2).imp fun h => by omega
  · rw [mem_sortU, List.mem_append, mem_sortU, (sortI_perm _).mem_iff, List.mem_append (s := set ++ seen)]
theorem oNe_nil : oNe (.list []) (.list []) = .ok (.bool false) := by
  have h := good_lints []
  have h : good (.list []) = true := h
  simp [oNe, h, PyData.eqv, PyData.eqvAll]
theorem filter_nil {xs : List Int} {p : Int → Bool} (h : ∀ x ∈ xs, p x = false) : xs.filter p = [] := by
  rw [List.filter_eq_nil_iff]
  intro x hx
  rw [h x hx]
  decide
open Classical in
noncomputable def dueL (m : Nat) (ps : List (Int × Int)) (set seen asked told : List Int) : List Int := (outL m set told).filter fun x => decide (Com ps (outL m set told) (tgL seen asked told) x)
open Classical in
theorem mem_due {m : Nat} {ps : List (Int × Int)} {set seen asked told : List Int} {x : Int} : x ∈ dueL m ps set seen asked told ↔ ((0 ≤ x ∧ x < m) ∧ x ∉ set ∧ x ∉ told) ∧ Com ps (outL m set told) (tgL seen asked told) x := by
  unfold dueL
  refine List.mem_filter.trans ?_
  rw [decide_eq_true_eq]
  refine and_congr_left fun _ => ?_
  unfold outL
  rw [List.mem_filter, mem_rng]
  simp only [Bool.not_eq_true', decide_eq_false_iff_not, Bool.and_eq_true]
theorem mem_out {m : Nat} {set told : List Int} {x : Int} : x ∈ outL m set told ↔ (0 ≤ x ∧ x < m) ∧ x ∉ set ∧ x ∉ told := by
  unfold outL
  rw [List.mem_filter, mem_rng]
  simp only [Bool.not_eq_true', decide_eq_false_iff_not, Bool.and_eq_true]
theorem due_sub {m : Nat} {ps : List (Int × Int)} {set seen asked told : List Int} {x : Int} (h : x ∈ dueL m ps set seen asked told) : x ∈ dueL m ps set seen asked [] := by
  rw [mem_due] at h ⊢
  refine ⟨⟨h.1.1, h.1.2.1, by simp⟩, Com.more (fun y hy => ?_) (fun y hy => ?_) h.2⟩
  · rw [mem_out] at hy ⊢
    exact ⟨hy.1, hy.2.1, by simp⟩
  · unfold tgL at hy ⊢
    rcases List.mem_append.mp hy with h | h
    · exact List.mem_append_left _ h
    · exact List.mem_append_right _ (List.mem_filter.mpr ⟨(List.mem_filter.mp h).1, by simp⟩)
theorem due_close {m : Nat} {ps : List (Int × Int)} {set seen asked told : List Int} {x y : Int} (hp : (x, y) ∈ ps) (pb : ∀ p ∈ ps, 0 ≤ p.1 ∧ p.1 < p.2 ∧ p.2 < m) (hy : y ∈ dueL m ps set seen asked told) (h1 : x ∉ set) (h2 : x ∉ told) : x ∈ dueL m ps set seen asked told := by
  rw [mem_due] at hy ⊢
  have := pb _ hp
  exact ⟨⟨⟨this.1, by omega⟩, h1, h2⟩, .step hp (mem_out.mpr hy.1) hy.2⟩
theorem due_asked {m : Nat} {ps : List (Int × Int)} {ca : List (List Int)} {tried set seen asked told : List Int} (q : Qu m ps ca tried set seen asked) (hs : ∀ x ∈ told, x ∈ seen) {x : Int} (hx : x ∈ asked) : x ∈ dueL m ps set seen asked told := by
  rw [mem_due]
  exact ⟨⟨q.a.bd x hx, q.ah x hx, fun z => q.as x hx (hs x z)⟩, .base (List.mem_append_left _ hx)⟩
/-- the turn over a drawing's arrows -/
theorem right_in {m : Nat} {ps : List (Int × Int)} {set seen asked told : List Int} (pb : ∀ p ∈ ps, 0 ≤ p.1 ∧ p.1 < p.2 ∧ p.2 < m) {a0 a1 a2 a4 a5 a6 a9 : Option D} : ∀ (qs : List (Int × Int)), (∀ p ∈ qs, p ∈ ps) → ∀ u v : Option D, ∃ u' v',
    forL (gT 2 (gsC (gN 10) (gsC (gN 11) gsN))) (sIf (bAnd (fB (f2 (oIn false) (fVar 11) (fVar 8))) (bAnd (fB (f2 (oIn true) (fVar 10) (fVar 8))) (bAnd (fB (f2 (oIn true) (fVar 10) (fVar 3))) (fB (f2 (oIn true) (fVar 10) (fVar 7)))))) (sRet (fC (.bool false))) sNx)
      (qs.map fun p => eI [p.1, p.2]) [a0, a1, a2, some (eI set), a4, a5, a6, some (eI told), some (eI (dueL m ps set seen asked told)), a9, u, v] = .ok (.nx [a0, a1, a2, some (eI set), a4, a5, a6, some (eI told), some (eI (dueL m ps set seen asked told)), a9, u', v'])
  | [], _, u, v => ⟨u, v, rfl⟩
  | p :: qs, h, u, v => by
    obtain ⟨u', v', ih⟩ := right_in (seen := seen) (asked := asked) (set := set) (told := told) pb (a0 := a0) (a1 := a1) (a2 := a2) (a4 := a4) (a5 := a5) (a6 := a6) (a9 := a9) qs (fun q hq => h q (List.mem_cons_of_mem _ hq)) (some (.int p.1)) (some (.int p.2))
    refine ⟨u', v', ?_⟩
    have no : (decide (p.2 ∈ dueL m ps set seen asked told) && (!decide (p.1 ∈ dueL m ps set seen asked told) && (!decide (p.1 ∈ set) && !decide (p.1 ∈ told)))) = false := by
      by_cases c1 : p.2 ∈ dueL m ps set seen asked told
      · by_cases c2 : p.1 ∈ set
        · simp [c2]
        · by_cases c3 : p.1 ∈ told
          · simp [c3]
          · have := due_close (h p List.mem_cons_self) pb c1 c2 c3
            rw [decide_eq_true this]
            simp
      · simp [c1]
    rw [List.map_cons, forL]
    generalize dueL m ps set seen asked told = due at no ih
    walk_at "ev"
    rw [no]
    walk_at "ev"
    exact ih
theorem due_ok2 {m : Nat} {ps : List (Int × Int)} {ca : List (List Int)} {tried set seen asked told : List Int} (q : Qu m ps ca tried set seen asked) (hm : m ≤ 8) : d_w_due [eQ m ps ca tried set seen asked, eI told] = .ok (eI (dueL m ps set seen asked told)) := by
  rw [due_ok q hm]
  unfold dueL
  all_goals rfl
theorem goal_ok2 {m : Nat} {ps : List (Int × Int)} {ca : List (List Int)} {tried set seen asked told : List Int} (q : Qu m ps ca tried set seen asked) (h1 : told.Nodup) (h2 : ∀ x ∈ told, x ∈ seen) : PG.d_goal [eQ m ps ca tried set seen asked, eI told] = .ok (eI (dueL m ps set seen asked told)) := by
  rw [goal_ok q h1 h2, goal_due q h2]
  unfold dueL
  all_goals rfl
structure RtI (Q0 D0 T0 : D) (set seen asked W : List Int) (n0 : Nat) (e : En) (n : Nat) : Prop where
  ex : ∃ a b c d : Option D, e = [some Q0, some D0, some T0, some (eI set), some (eI seen), some (eI asked), some (eI W), a, b, none, c, d] ∧ n = n0
theorem right_wp {m n : Nat} {ps : List (Int × Int)} {ca : List (List Int)} {tried set seen asked : List Int} {E : Ex → Nat → Prop} {t : T D} (ht : d_w_right [eQ m ps ca tried set seen asked] = t) (q : Qu m ps ca tried set seen asked) (hm : m ≤ 8) : t.wp n (fun d n' => n' = n ∧ d = .bool true) E := by
  have l1 := q.h.len; have l2 := q.s.len; have l3 := q.a.len
  have eth := things_eq q
  have tl : Lot m (sortI (set ++ seen ++ asked)) := by
    rw [← eth]
    refine ⟨sortU_asc _, fun x hx => ?_⟩
    rw [mem_sortU, List.mem_append, mem_sortU, List.mem_append] at hx
    rcases hx with (h | h) | h
    · exact q.h.bd x h
    · exact q.s.bd x h
    · exact q.a.bd x h
  subst ht
  unfold d_w_right t_w_right
  walk_at "ev"
  rw [things_of_ok q, noX_ok]
  walk_at "ev"
  rw [oAdd_tup _ _ (by rw [List.length_map, List.length_map]; omega), ← List.map_append]
  walk_at "ev"
  rw [oAdd_tup _ _ (by rw [List.length_map, List.length_map, List.length_append]; omega), ← List.map_append]
  walk_at "ev"
  simp (decide := false) (implicitDefEqProofs := false) only [oSorted, intsOf_map]
  rw [if_pos (by rw [List.length_append, List.length_append]; omega)]
  walk_at "ev"
  rw [eth, like_lot tl (by omega), noX_ok]
  walk_at "ev"
  rw [mkT_ok [] (by simp)]
  walk_at "ev"
  have dd : ∀ told : List Int, d_w_due [eQ m ps ca tried set seen asked, eI told] = .ok (eI (dueL m ps set seen asked told)) := fun told => due_ok2 q hm
  have gg : ∀ told : List Int, told.Nodup → (∀ x ∈ told, x ∈ seen) → PG.d_goal [eQ m ps ca tried set seen asked, eI told] = .ok (eI (dueL m ps set seen asked told)) := fun told h1 h2 => goal_ok2 q h1 h2
  have dl : ∀ told : List Int, Lot m (dueL m ps set seen asked told) := fun told => Lot.sub (outL_lot m set told) List.filter_sublist
  rw [show PyData.tuple [] = eI [] from rfl, dd [], noX_ok]
  have hW : ∀ (told : List Int) x, x ∈ dueL m ps set seen asked told → x ∈ dueL m ps set seen asked [] := fun told x h => due_sub h
  have hO : ∀ (told : List Int) x, x ∈ dueL m ps set seen asked told → x ∉ set ∧ x ∉ told := fun told x h => (mem_due.mp h).1.2
  have hA : ∀ (told : List Int), (∀ x ∈ told, x ∈ seen) → ∀ x ∈ asked, x ∈ dueL m ps set seen asked told := fun told h x hx => due_asked q h hx
  generalize hWe : dueL m ps set seen asked [] = W at hW
  walk_at "ev"
  rw [T.wp_bind, T.wp_bind, T.wp_bind, T.wp_bind]
  generalize hmv : d_w_moves [eI seen] = mv
  refine wpNoX (T.wp_mono (moves_wp hmv (by omega)) (fun d n' hd => ?_) fun _ _ z => z)
  obtain ⟨rfl, rows, rfl, hrows⟩ := hd
  rw [show dSeq (.list (rows.map eI)) = .ok (rows.map eI) from rfl, wpOk]
  refine forL_wp (fun i e k => RtI (eQ m ps ca tried set seen asked) (eD m ps ca) (eI tried) set seen asked W n' e k) _ 0 _ n' ⟨⟨none, none, none, none, rfl, rfl⟩⟩ ?_ ?_
  · intro j x e k hx hI
    obtain ⟨a, b, c, d, rfl, rfl⟩ := hI.ex
    rw [List.getElem?_map] at hx
    obtain ⟨told, ht, hxe⟩ := Option.map_eq_some_iff.mp hx
    obtain ⟨h1, h2⟩ := hrows told (List.mem_of_getElem? ht)
    have g1 := gg told h1 h2
    have d1 := dd told
    have ll := like_lot (dl told) (by omega)
    obtain ⟨u', v', hin⟩ := right_in (set := set) (seen := seen) (asked := asked) (told := told) q.dr.pb (a0 := some (eQ m ps ca tried set seen asked)) (a1 := some (eD m ps ca)) (a2 := some (eI tried)) (a4 := some (eI seen)) (a5 := some (eI asked)) (a6 := some (eI W)) (a9 := none) ps (fun p h => h) c d
    have hWt := hW told
    have hOt := hO told
    have hAt := hA told h2
    generalize dueL m ps set seen asked told = due at hin hWt hOt hAt g1 d1 ll
    have f1 : due.filter (fun x => !decide (x ∈ W) || (decide (x ∈ set) || decide (x ∈ told))) = [] := filter_nil (fun x hx => by
      have w1 := hWt x hx
      have w2 := hOt x hx
      simp [w1, w2])
    have f2 : asked.filter (fun x => !decide (x ∈ due)) = [] := filter_nil (fun x hx => by
      have w1 := hAt x hx
      simp [w1])
    subst hxe
    rw [gN_bind]
    walk_at "ev"
    rw [g1, noX_ok]
    walk_at "ev"
    rw [d1, noX_ok]
    walk_at "ev"
    rw [ll, noX_ok]
    walk_at "ev"
    rw [lcL_ok .int (fun x => !decide (x ∈ W) || (decide (x ∈ set) || decide (x ∈ told))) (fun _ => .int 1) due (fun x hx => ⟨_, rfl, (by walk_at "ev"), fun _ => (by walk_at "ev")⟩)]
    rw [f1]
    walk_at "ev"
    rw [mkL_ok [] (by simp)]
    walk_at "ev"
    rw [oNe_nil]
    walk_at "ev"
    rw [hin]
    walk_at "ev"
    rw [lcL_ok .int (fun x => !decide (x ∈ due)) (fun _ => .int 1) asked (fun x hx => ⟨_, rfl, (by walk_at "ev"), fun _ => (by walk_at "ev")⟩)]
    rw [f2]
    walk_at "ev"
    rw [mkL_ok [] (by simp)]
    walk_at "ev"
    rw [oNe_nil]
    walk_at "ev"
    rw [wpOk]
    exact ⟨⟨_, _, _, _, rfl, rfl⟩⟩
  · intro e k hI
    obtain ⟨a, b, c, d, rfl, rfl⟩ := hI.ex
    walk_at "ev"
    rw [wpOk]
    dsimp only
    rw [wpOk]
    exact ⟨rfl, rfl⟩
end L24
set_option Elab.async false
set_option linter.all false
set_option maxRecDepth 100000
set_option maxHeartbeats 8000000
namespace L24
open PySem L2 PL PG
local macro_rules | `(tactic| walk_at "gen") => `(tactic| simp (decide := false) (implicitDefEqProofs := false) only [gYes, gBv, gIn, gLoc, gFree, gEq, gAnd, gIsT, gInt, tyD, isOwn, flatD, all_flat, any_eqv, Function.comp_apply, List.getElem?_cons_zero, List.getElem?_cons_succ, Option.bind_some, Option.map_some, Bool.and_self, if_true, if_false, Bool.false_eq_true, reduceIte, decide_true, Bool.and_true, Bool.true_and])
local macro_rules | `(tactic| walk_at "ev") => `(tactic| simp (decide := false) (implicitDefEqProofs := false) only [fnD, runD, startE, endD, sqK, sqR, relE, rel1, unown, noX, asB, asI, oTru, oIsT, tyD, oLen, oInt, oTupOf, oListOf, gN, gT, gsC, gsN, dSeq, dRev, isOwn, wipeE, ↓sNx_a, ↓sSq_a, ↓sIf_a, ↓sSet_a, ↓sAsg_a, ↓sRet_a, ↓sRetN_a, ↓sDrop_a, ↓sBad_a, ↓sFor_a, ↓sBk_a, ↓sCt_a, ↓sPar_a, ↓sOwS_a, ↓sSqR_a, ↓sRel_a, ↓sOwL_a, ↓oSAdd_a, ↓oApp_a, ↓oSetI_a, ↓fVar_a, ↓fC_a, ↓f1_a, ↓f2_a, ↓fB_a, ↓fTru_a, ↓bNot_a, ↓bAnd_a, ↓bOr_a, ↓bYes_a, ↓fNot_a, ↓fAnd_a, ↓fOr_a, ↓fIf_a, ↓aNil_a, ↓aCons_a, ↓fTup_a, ↓fLst_a, ↓fCall_a, ↓oCh_a, ↓iSeq_a, ↓iRg_a, ↓iOf_a, ↓fLc_a, ↓fSl_a, ↓fo0_a, ↓fo1_a, ↓fTupRg_a, ↓fLstRg_a, ↓fLenSet_a, ↓fSortSet_a, ↓nLst_a, ↓nLc_a, ↓fSIn_a, ↓fSSort_a, ↓fSLen_a, ↓fLLen_a, ↓fLTup_a, ↓fLIx_a, ↓fG1_a, ↓fG2_a, ↓iPrs_a, ↓iEnG_a, T.ok_bind, T.bad_bind, T.exc_bind, T.draw_bind,
  List.length_cons, List.length_nil, List.map_cons, List.map_nil, List.length_map, List.length_replicate, Nat.reduceAdd, Nat.reduceSub, Nat.sub_self, List.replicate_zero, List.append_nil, List.cons_append, List.nil_append, List.replicate_succ, List.getElem?_cons_zero, List.getElem?_cons_succ, List.set_cons_zero, List.set_cons_succ, if_true, if_false, Bool.false_eq_true, Bool.not_true, Bool.not_false, reduceIte, reduceCtorEq, decide_true, decide_false, Bool.true_and, Bool.and_true, Bool.false_and, Bool.and_false, Bool.or_true, Bool.or_false, Bool.true_or, Bool.false_or, eq_self, cast0, cast1, cast2, cast3, cast4, cast5, oLe_int, oLt_int, oGt_int, oGe_int, oAdd_int, oSub_int, oEq_int, oNe_int, oIn_tup, oIn_lst, bool_and, bool_or, t_and, t_or, oLe_tup, oLt_tup, dDraw_ok, ixT0, ixL0, ixT1, ixL1, ixT2, ixL2, ixT3, ixL3, ixT4, ixL4, ixT5, ixL5, ixT6, ixL6, ixT7, ixL7])


theorem gN_bind' {β : Type} (i : Nat) (d : D) (e : En) (b : En → T β) : (gN i d e).bind b = b (e.set i (some d)) := rfl
structure LwI (i : Nat) (e : En) (n : Nat) : Prop where
  ex : ∃ a : Option D, e = [none, some (.dict []), a, none, none] ∧ n ≤ 1000 * i
theorem last_qu : Qu 4 [(0, 1), (0, 3), (1, 2)] [] [] [] [1, 3] [2] := by
  refine ⟨⟨by decide, by decide, by decide, by decide, fun c h => (by cases h), .nil, by decide⟩, ⟨by decide, by decide⟩, ⟨by decide, by decide⟩, ⟨by decide, by decide⟩, ⟨by decide, by decide⟩, by decide, by decide, by decide, by decide, by decide⟩
theorem mkT0 : mkT [] = .ok (.tuple []) := mkT_ok _ (by simp)
theorem mkT1 (a : D) : mkT [a] = .ok (.tuple [a]) := mkT_ok _ (by simp)
theorem mkT2 (a b : D) : mkT [a, b] = .ok (.tuple [a, b]) := mkT_ok _ (by simp)
theorem mkT3 (a b c : D) : mkT [a, b, c] = .ok (.tuple [a, b, c]) := mkT_ok _ (by simp)
theorem mkT4 (a b c d : D) : mkT [a, b, c, d] = .ok (.tuple [a, b, c, d]) := mkT_ok _ (by simp)
theorem mkT5 (a b c d e : D) : mkT [a, b, c, d, e] = .ok (.tuple [a, b, c, d, e]) := mkT_ok _ (by simp)
theorem mkL4 (a b c d : D) : mkL [a, b, c, d] = .ok (.list [a, b, c, d]) := mkL_ok _ (by simp)
abbrev Qd : D := .tuple [.tuple [.int 4, .tuple [.tuple [.int 0, .int 1], .tuple [.int 0, .int 3], .tuple [.int 1, .int 2]], .tuple []], .tuple [], .tuple [], .tuple [.int 1, .int 3], .tuple [.int 2]]
theorem g0 : PG.d_goal [Qd, .tuple []] = .ok (.tuple [.int 0, .int 1, .int 2, .int 3]) := (goal_ok (moved := []) last_qu (by decide) (by decide)).trans (congrArg (fun z => T.ok (eI z)) (show _ = [0, 1, 2, 3] by decide))
theorem g1 : PG.d_goal [Qd, .tuple [.int 1]] = .ok (.tuple [.int 0, .int 2, .int 3]) := (goal_ok (moved := [1]) last_qu (by decide) (by decide)).trans (congrArg (fun z => T.ok (eI z)) (show _ = [0, 2, 3] by decide))
theorem g3 : PG.d_goal [Qd, .tuple [.int 3]] = .ok (.tuple [.int 0, .int 1, .int 2]) := (goal_ok (moved := [3]) last_qu (by decide) (by decide)).trans (congrArg (fun z => T.ok (eI z)) (show _ = [0, 1, 2] by decide))
theorem g31 : PG.d_goal [Qd, .tuple [.int 3, .int 1]] = .ok (.tuple [.int 2]) := (goal_ok (moved := [3, 1]) last_qu (by decide) (by decide)).trans (congrArg (fun z => T.ok (eI z)) (show _ = [2] by decide))
theorem lastLike : dLike [.list [.tuple [.int 0, .int 1, .int 2, .int 3], .tuple [.int 0, .int 2, .int 3], .tuple [.int 0, .int 1, .int 2], .tuple [.int 2]], .list [.tuple [.int 0, .int 1, .int 2, .int 3], .tuple [.int 0, .int 2, .int 3], .tuple [.int 0, .int 1, .int 2], .tuple [.int 2]]] = .ok (.bool true) := dLike_same (by decide +kernel) (by decide +kernel)
theorem wp_law : (t_law ((List.replicate n_law.length none).set 1 (some (.dict [])))).wp 0 (fun fl _ => fl = .rt (.bool true)) fun _ _ => False := by
  show (t_law [none, some (.dict []), none, none, none]).wp 0 _ _
  unfold t_law
  walk_at "ev"
  rw [show dRg1 [PyData.int 5] = .ok (([0, 1, 2, 3, 4] : List Int).map .int) from rfl]
  walk_at "ev"
  rw [T.wp_bind]
  refine forL_wp (fun i e k => LwI i e k) _ 0 _ 0 ⟨⟨none, rfl, by omega⟩⟩ ?_ ?_
  · intro j x e k hx hI
    rw [Nat.zero_add] at hI ⊢
    have hj : j < 5 := by
      have := (List.getElem?_eq_some_iff.mp hx).1
      simpa using this
    obtain ⟨a, rfl, hk⟩ := hI.ex
    rw [gN_bind']
    walk_at "ev"
    simp (decide := false) (implicitDefEqProofs := false) only [T.wp_bind]
    generalize h1 : d_w_drawing [PyData.dict [], PyData.int 1, PyData.int 8] = t1
    refine wpNoX (T.wp_mono (drawing_wp h1 (by decide) (by decide) (by decide) (by omega)) (fun dr k1 hd => ?_) fun _ _ z => z)
    obtain ⟨hk1, m, ps, ca, rfl, hdr, hm⟩ := hd
    rw [wpOk, wpOk]
    generalize h2 : d_w_question [PyData.dict [], eD m ps ca] = t2
    refine wpNoX (T.wp_mono (question_wp h2 hdr (by omega)) (fun dq k2 hd => ?_) fun _ _ z => z)
    obtain ⟨hk2, tried, set, seen, asked, rfl, hq⟩ := hd
    rw [wpOk]
    generalize h3 : d_w_right [eQ m ps ca tried set seen asked] = t3
    refine wpNoX (T.wp_mono (right_wp h3 hq (by omega)) (fun dq k3 hd => ?_) fun _ _ z => z)
    obtain ⟨rfl, rfl⟩ := hd
    rw [show oTru (.bool true) = .ok true from rfl, wpOk, wpOk]
    rw [if_neg (by decide), wpOk]
    exact ⟨⟨_, rfl, by omega⟩⟩
  · intro e k hI
    obtain ⟨a, rfl, hk⟩ := hI.ex
    walk_at "ev"
    simp (decide := false) (implicitDefEqProofs := false) only [mkT0, mkT1, mkT2, mkT3, mkT4, mkT5, T.ok_bind]
    walk_at "ev"
    simp (decide := false) (implicitDefEqProofs := false) only [mkT0, mkT1, mkT2, mkT3, mkT4, mkT5, mkL4, T.ok_bind, g0, g1, g3, g31, noX_ok]
    walk_at "ev"
    simp (decide := false) (implicitDefEqProofs := false) only [mkT0, mkT1, mkT2, mkT3, mkT4, mkT5, mkL4, T.ok_bind, lastLike, noX_ok]
    rw [wpOk]
end L24
set_option Elab.async false
set_option linter.all false
set_option maxRecDepth 100000
set_option maxHeartbeats 8000000
namespace L24
open PySem L2 G9 GxR PG
open PL hiding pv
section
variable {P : Program} {w : World} {K : PySem.W.Frag} {mg : Str → Option Value} {base : Heap} {Ps : List Addr}
theorem ok_is_integer {f c : Addr} {fd : FuncData} (F : FunC K "is_integer" "is_integer" s_is_integer f fd c) (T : Blt mg)  : FnG P w K mg base 1 f fd ["value", "least", "most"] (Qs K w Ps d_is_integer) :=
  fn_ok (k := 0) F sc_is_integer (by decide) rfl fun A outer s H g hg hr hK hw hP how => (p_sone (p_ret (p_and (p_isT0 hK.symm (by rfl) T.type (by rfl) T.int (by decide +kernel) (PL.pv 0)) (p_one (p_chain (op_leA hr.units0) (op_leA hr.units0) (o_le hK.symm) (o_le hK.symm) (PL.pv 1) (PL.pv 0) (PL.pv 2) (by with_unfolding_all rfl))))))
theorem ok_is_lot {f c : Addr} {fd : FuncData} (F : FunC K "is_lot" "is_lot" s_is_lot f fd c) (T : Blt mg) (C_is_integer : Cal P w K mg base Ps 1 "is_integer" ["value", "least", "most"] d_is_integer) : FnG P w K mg base 2 f fd ["count", "value"] (Qs K w Ps d_is_lot) :=
  fn_ok (k := 1) F sc_is_lot (by decide) rfl fun A outer s H g hg hr hK hw hP how => (p_scons (p_if (p_tisT1 hK.symm (by rfl) T.type (by rfl) T.tuple (by decide +kernel) (PL.pv 1)) (p_sone (p_ret p_bl)) p_snil)
  (p_scons (p_set (i := 2) sc_is_lot.nd rfl (by first | exact .inl rfl | exact .inr rfl) p_int)
  (p_scons (p_for PassesOwn.never rfl (p_iseq hK.symm (PL.pv 1)) (p_gn (i := 3) sc_is_lot.nd rfl (by first | exact .inl rfl | exact .inr rfl)) (p_scons (p_if (p_tnot (p_tru hK.symm (p_c C_is_integer (gu hg) (hr.mono (by decide)) (by rfl) hK.symm hw.symm hP (p_cons (PL.pv 3) (p_cons (PL.pv 2) (p_cons (p_bin op_sub o_sub (PL.pv 0) p_int) p_nil)))))) (p_sone (p_ret p_bl)) p_snil)
  (p_sone (p_set (i := 2) sc_is_lot.nd rfl (by first | exact .inl rfl | exact .inr rfl) (p_bin op_addA (o_add hK.symm) (PL.pv 3) p_int)))))
  (p_sone (p_ret p_bl)))))
theorem ok_uneed_arrows {f c : Addr} {fd : FuncData} (F : FunC K "_need_arrows" "_need_arrows" s_uneed_arrows f fd c) (T : Blt mg) (C_is_lot : Cal P w K mg base Ps 2 "is_lot" ["count", "value"] d_is_lot) : FnG P w K mg base 3 f fd ["count", "arrows"] (Qs K w Ps d_uneed_arrows) :=
  fn_ok (k := 2) F sc_uneed_arrows (by decide) rfl fun A outer s H g hg hr hK hw hP how => (p_scons (p_if (p_tisT1 hK.symm (by rfl) T.type (by rfl) T.tuple (by decide +kernel) (PL.pv 1)) (p_sone p_never) p_snil)
  (p_scons (p_set (i := 2) sc_uneed_arrows.nd rfl (by first | exact .inl rfl | exact .inr rfl) (p_tup p_nil))
  (p_sone (p_for PassesOwn.never rfl (p_ienum hK.symm (by rfl) T.enumerate (p_cons (PL.pv 1) p_nil)) (p_gt hK.symm rfl (p_gsc (p_gn (i := 3) sc_uneed_arrows.nd rfl (by first | exact .inl rfl | exact .inr rfl)) (p_gsc (p_gn (i := 4) sc_uneed_arrows.nd rfl (by first | exact .inl rfl | exact .inr rfl)) p_gsn))) (p_scons (p_if (PW.pt (p_wor (p_tnot (p_tru hK.symm (p_c C_is_lot (gu hg) (hr.mono (by decide)) (by rfl) hK.symm hw.symm hP (p_cons (PL.pv 0) (p_cons (PL.pv 4) p_nil))))) (p_wor (p_tcmp (op_neD hr.units) (o_ne hK.symm) (p_len hK.symm (by rfl) T.len (PL.pv 4)) p_int (nomark _)) (p_wor1 (p_tcmp (op_leA hr.units0) (o_le hK.symm) (PL.pv 4) (PL.pv 2) (nomark _)))))) (p_sone p_never) p_snil)
  (p_sone (p_set (i := 2) sc_uneed_arrows.nd rfl (by first | exact .inl rfl | exact .inr rfl) (PL.pv 4))))))))
theorem ok_uneed_causes {f c : Addr} {fd : FuncData} (F : FunC K "_need_causes" "_need_causes" s_uneed_causes f fd c) (T : Blt mg) (C_is_lot : Cal P w K mg base Ps 2 "is_lot" ["count", "value"] d_is_lot) (cMOST_CAUSES : Cint mg "MOST_CAUSES" 20) : FnG P w K mg base 3 f fd ["count", "causes"] (Qs K w Ps d_uneed_causes) :=
  fn_ok (k := 2) F sc_uneed_causes (by decide) rfl fun A outer s H g hg hr hK hw hP how => (p_scons (p_if (PW.pt (p_wor (p_tisT1 hK.symm (by rfl) T.type (by rfl) T.tuple (by decide +kernel) (PL.pv 1)) (p_wor1 (p_tcmp op_gt o_gt (p_len hK.symm (by rfl) T.len (PL.pv 1)) (p_gi cMOST_CAUSES (by rfl)) (nomark _))))) (p_sone p_never) p_snil)
  (p_scons (p_set (i := 2) sc_uneed_causes.nd rfl (by first | exact .inl rfl | exact .inr rfl) (p_tup p_nil))
  (p_sone (p_for PassesOwn.never rfl (p_ienum hK.symm (by rfl) T.enumerate (p_cons (PL.pv 1) p_nil)) (p_gt hK.symm rfl (p_gsc (p_gn (i := 3) sc_uneed_causes.nd rfl (by first | exact .inl rfl | exact .inr rfl)) (p_gsc (p_gn (i := 4) sc_uneed_causes.nd rfl (by first | exact .inl rfl | exact .inr rfl)) p_gsn))) (p_scons (p_if (PW.pt (p_wor (p_tnot (p_tru hK.symm (p_c C_is_lot (gu hg) (hr.mono (by decide)) (by rfl) hK.symm hw.symm hP (p_cons (PL.pv 0) (p_cons (PL.pv 4) p_nil))))) (p_wor (p_tcmp (op_ltA hr.units0) (o_lt hK.symm) (p_len hK.symm (by rfl) T.len (PL.pv 4)) p_int (nomark _)) (p_wor1 (p_tcmp (op_leA hr.units0) (o_le hK.symm) (PL.pv 4) (PL.pv 2) (nomark _)))))) (p_sone p_never) p_snil)
  (p_sone (p_set (i := 2) sc_uneed_causes.nd rfl (by first | exact .inl rfl | exact .inr rfl) (PL.pv 4))))))))
theorem ok_is_tuple_of {f c : Addr} {fd : FuncData} (F : FunC K "is_tuple_of" "is_tuple_of" s_is_tuple_of f fd c) (T : Blt mg)  : FnG P w K mg base 1 f fd ["value", "many"] (Qs K w Ps d_is_tuple_of) :=
  fn_ok (k := 0) F sc_is_tuple_of (by decide) rfl fun A outer s H g hg hr hK hw hP how => (p_sone (p_ret (p_and (p_isT0 hK.symm (by rfl) T.type (by rfl) T.tuple (by decide +kernel) (PL.pv 0)) (p_one (p_cmp (op_eqD hr.units) (o_eq hK.symm) (p_len hK.symm (by rfl) T.len (PL.pv 0)) (PL.pv 1) (nomark _))))))
theorem ok_need_drawing {f c : Addr} {fd : FuncData} (F : FunC K "need_drawing" "need_drawing" s_need_drawing f fd c) (T : Blt mg) (C_is_tuple_of : Cal P w K mg base Ps 1 "is_tuple_of" ["value", "many"] d_is_tuple_of) (C_is_integer : Cal P w K mg base Ps 1 "is_integer" ["value", "least", "most"] d_is_integer) (C_uneed_arrows : Cal P w K mg base Ps 3 "_need_arrows" ["count", "arrows"] d_uneed_arrows) (C_uneed_causes : Cal P w K mg base Ps 3 "_need_causes" ["count", "causes"] d_uneed_causes) (c_MOST_THINGS : Cint mg "_MOST_THINGS" 10) : FnG P w K mg base 4 f fd ["drawing"] (Qs K w Ps d_need_drawing) :=
  fn_ok (k := 3) F sc_need_drawing (by decide) rfl fun A outer s H g hg hr hK hw hP how => (p_scons (p_if (p_tnot (p_tru hK.symm (p_c C_is_tuple_of (gu hg) (hr.mono (by decide)) (by rfl) hK.symm hw.symm hP (p_cons (PL.pv 0) (p_cons p_int p_nil))))) (p_sone p_never) p_snil)
  (p_scons (p_asg (PL.pv 0) (p_gt hK.symm rfl (p_gsc (p_gn (i := 1) sc_need_drawing.nd rfl (by first | exact .inl rfl | exact .inr rfl)) (p_gsc (p_gn (i := 2) sc_need_drawing.nd rfl (by first | exact .inl rfl | exact .inr rfl)) (p_gsc (p_gn (i := 3) sc_need_drawing.nd rfl (by first | exact .inl rfl | exact .inr rfl)) p_gsn)))))
  (p_scons (p_if (p_tnot (p_tru hK.symm (p_c C_is_integer (gu hg) (hr.mono (by decide)) (by rfl) hK.symm hw.symm hP (p_cons (PL.pv 1) (p_cons p_int (p_cons (p_gi c_MOST_THINGS (by rfl)) p_nil)))))) (p_sone p_never) p_snil)
  (p_scons (p_expr (p_c C_uneed_arrows (gu hg) (hr.mono (by decide)) (by rfl) hK.symm hw.symm hP (p_cons (PL.pv 1) (p_cons (PL.pv 2) p_nil))))
  (p_scons (p_expr (p_c C_uneed_causes (gu hg) (hr.mono (by decide)) (by rfl) hK.symm hw.symm hP (p_cons (PL.pv 1) (p_cons (PL.pv 3) p_nil))))
  (p_sone (p_ret (PL.pv 0))))))))
theorem ok_meets {f c : Addr} {fd : FuncData} (F : FunC K "meets" "meets" s_meets f fd c) (T : Blt mg) {Pt : Addr} (TB : TabB base mg c Pt) (hPt : Pt ∈ Ps) : FnG P w K mg base 1 f fd ["lot", "other"] (Qs K w Ps d_meets) :=
  fn_ok (k := 0) F sc_meets (by decide) rfl fun A outer s H g hg hr hK hw hP how => (p_sone (p_ret (p_g1B k_any eat_any (by rw [hP]; exact hPt) hr (by rfl) T.any (by decide +kernel) TB rfl (gn_by (sc := defScope s_meets) (by decide +kernel)) (s1_seq hK.symm (PL.pv 0) hr.hd) ts_nil (l_bool (v_in hK.symm (l_loc 0 rfl (by decide +kernel)) (l_free 1 rfl (by decide +kernel) rfl))))))
theorem ok_lies_in {f c : Addr} {fd : FuncData} (F : FunC K "lies_in" "lies_in" s_lies_in f fd c) (T : Blt mg) {Pt : Addr} (TB : TabB base mg c Pt) (hPt : Pt ∈ Ps) : FnG P w K mg base 1 f fd ["lot", "other"] (Qs K w Ps d_lies_in) :=
  fn_ok (k := 0) F sc_lies_in (by decide) rfl fun A outer s H g hg hr hK hw hP how => (p_sone (p_ret (p_g1B k_all eat_all (by rw [hP]; exact hPt) hr (by rfl) T.all (by decide +kernel) TB rfl (gn_by (sc := defScope s_lies_in) (by decide +kernel)) (s1_seq hK.symm (PL.pv 0) hr.hd) ts_nil (l_bool (v_in hK.symm (l_loc 0 rfl (by decide +kernel)) (l_free 1 rfl (by decide +kernel) rfl))))))
theorem ok_need_question {f c : Addr} {fd : FuncData} (F : FunC K "need_question" "need_question" s_need_question f fd c) (T : Blt mg) (C_is_tuple_of : Cal P w K mg base Ps 1 "is_tuple_of" ["value", "many"] d_is_tuple_of) (C_need_drawing : Cal P w K mg base Ps 4 "need_drawing" ["drawing"] d_need_drawing) (C_is_lot : Cal P w K mg base Ps 2 "is_lot" ["count", "value"] d_is_lot) (C_lies_in : Cal P w K mg base Ps 1 "lies_in" ["lot", "other"] d_lies_in) (C_meets : Cal P w K mg base Ps 1 "meets" ["lot", "other"] d_meets) : FnG P w K mg base 5 f fd ["question"] (Qs K w Ps d_need_question) :=
  fn_ok (k := 4) F sc_need_question (by decide) rfl fun A outer s H g hg hr hK hw hP how => (p_scons (p_if (p_tnot (p_tru hK.symm (p_c C_is_tuple_of (gu hg) (hr.mono (by decide)) (by rfl) hK.symm hw.symm hP (p_cons (PL.pv 0) (p_cons p_int p_nil))))) (p_sone p_never) p_snil)
  (p_scons (p_asg (PL.pv 0) (p_gt hK.symm rfl (p_gsc (p_gn (i := 1) sc_need_question.nd rfl (by first | exact .inl rfl | exact .inr rfl)) (p_gsc (p_gn (i := 2) sc_need_question.nd rfl (by first | exact .inl rfl | exact .inr rfl)) (p_gsc (p_gn (i := 3) sc_need_question.nd rfl (by first | exact .inl rfl | exact .inr rfl)) (p_gsc (p_gn (i := 4) sc_need_question.nd rfl (by first | exact .inl rfl | exact .inr rfl)) (p_gsc (p_gn (i := 5) sc_need_question.nd rfl (by first | exact .inl rfl | exact .inr rfl)) p_gsn)))))))
  (p_scons (p_expr (p_c C_need_drawing (gu hg) (hr.mono (by decide)) (by rfl) hK.symm hw.symm hP (p_cons (PL.pv 1) p_nil)))
  (p_scons (p_for PassesOwn.never rfl (p_iseq hK.symm (p_tup (p_cons p_int (p_cons p_int (p_cons p_int (p_cons p_int p_nil)))))) (p_gn (i := 6) sc_need_question.nd rfl (by first | exact .inl rfl | exact .inr rfl)) (p_sone (p_if (p_tnot (p_tru hK.symm (p_c C_is_lot (gu hg) (hr.mono (by decide)) (by rfl) hK.symm hw.symm hP (p_cons (p_ix hK.symm (PL.pv 1) p_int (fun _ _ => rfl)) (p_cons (p_ix hK.symm (PL.pv 0) (PL.pv 6) (fun _ _ => rfl)) p_nil))))) (p_sone p_never) p_snil)))
  (p_scons (p_if (p_tnot (p_tru hK.symm (PL.pv 5))) (p_sone p_never) p_snil)
  (p_scons (p_if (p_tnot (p_tru hK.symm (p_c C_lies_in (gu hg) (hr.mono (by decide)) (by rfl) hK.symm hw.symm hP (p_cons (PL.pv 2) (p_cons (PL.pv 3) p_nil))))) (p_sone p_never) p_snil)
  (p_scons (p_if (p_tru hK.symm (p_c C_meets (gu hg) (hr.mono (by decide)) (by rfl) hK.symm hw.symm hP (p_cons (PL.pv 4) (p_cons (PL.pv 3) p_nil)))) (p_sone p_never) p_snil)
  (p_scons (p_if (PW.pt (p_wor (p_tru hK.symm (p_c C_meets (gu hg) (hr.mono (by decide)) (by rfl) hK.symm hw.symm hP (p_cons (PL.pv 5) (p_cons (PL.pv 3) p_nil)))) (p_wor1 (p_tru hK.symm (p_c C_meets (gu hg) (hr.mono (by decide)) (by rfl) hK.symm hw.symm hP (p_cons (PL.pv 5) (p_cons (PL.pv 4) p_nil))))))) (p_sone p_never) p_snil)
  (p_sone (p_ret (PL.pv 0)))))))))))
theorem ok_leading_in {f c : Addr} {fd : FuncData} (F : FunC K "leading_in" "leading_in" s_leading_in f fd c) (T : Blt mg)  : FnG P w K mg base 1 f fd ["arrows", "lot", "goal"] (Qs K w Ps d_leading_in) :=
  fn_ok (k := 0) F sc_leading_in (by decide) rfl fun A outer s H g hg hr hK hw hP how => (r_base (r_setU (i := 3) rfl sc_leading_in.nd rfl (by first | exact .inl rfl | exact .inr rfl) hK.symm hw.symm .base (NJ.nil how) (by rfl) T.set (PL.pv 2) (fun _ o0 => (r_cons o0 (p_for PassesOwn.never rfl (p_irev hK.symm (by rfl) T.reversed (PL.pv 0)) (p_gt hK.symm rfl (p_gsc (p_gn (i := 4) sc_leading_in.nd rfl (by first | exact .inl rfl | exact .inr rfl)) (p_gsc (p_gn (i := 5) sc_leading_in.nd rfl (by first | exact .inl rfl | exact .inr rfl)) p_gsn))) (p_sone (p_if (PW.pt (p_wand (p_tcmp op_in_seq (o_in false hK.symm) (PL.pv 4) (PL.pv 1) (by with_unfolding_all rfl)) (p_wand1 (p_tsin (i := 3) hw.symm rfl (by first | exact .inl rfl | exact .inr (.inl rfl) | exact .inr (.inr rfl)) (PL.pv 5) (by with_unfolding_all rfl))))) (p_sone (p_sadd (i := 3) hw.symm rfl (by first | exact .inl rfl | exact .inr (.inl rfl) | exact .inr (.inr rfl)) (PL.pv 4))) p_snil))) (r_cons o0 (p_ret (p_tupOf hK.symm (by rfl) T.tuple (p_ssort (i := 3) rfl hw.symm (by rfl) T.sorted rfl (by first | exact .inl rfl | exact .inr (.inl rfl) | exact .inr (.inr rfl))))) (r_nil o0))))))
theorem ok_all_without {f c : Addr} {fd : FuncData} (F : FunC K "all_without" "all_without" s_all_without f fd c) (T : Blt mg) {Pt : Addr} (TB : TabB base mg c Pt) (hPt : Pt ∈ Ps) : FnG P w K mg base 1 f fd ["count", "lot"] (Qs K w Ps d_all_without) :=
  fn_ok (k := 0) F sc_all_without (by decide) rfl fun A outer s H g hg hr hK hw hP how => (p_sone (p_ret (p_g1T k_tup eat_tuple (by rw [hP]; exact hPt) hr (by rfl) T.tuple (by decide +kernel) TB rfl (gn_by (sc := defScope s_all_without) (by decide +kernel)) (s1_rng (by rfl) T.range (p_cons (PL.pv 0) p_nil)) (ts_one (t_notin hK.symm (l_loc 0 rfl (by decide +kernel)) (l_free 1 rfl (by decide +kernel) rfl))) (l_loc 0 rfl (by decide +kernel)))))
theorem ok_goal_in {f c : Addr} {fd : FuncData} (F : FunC K "goal_in" "goal_in" s_goal_in f fd c) (T : Blt mg) (C_leading_in : Cal P w K mg base Ps 1 "leading_in" ["arrows", "lot", "goal"] d_leading_in) (C_all_without : Cal P w K mg base Ps 1 "all_without" ["count", "lot"] d_all_without) : FnG P w K mg base 2 f fd ["drawing", "closed", "ends"] (Qs K w Ps d_goal_in) :=
  fn_ok (k := 1) F sc_goal_in (by decide) rfl fun A outer s H g hg hr hK hw hP how => (p_scons (p_asg (PL.pv 0) (p_gt hK.symm rfl (p_gsc (p_gn (i := 3) sc_goal_in.nd rfl (by first | exact .inl rfl | exact .inr rfl)) (p_gsc (p_gn (i := 4) sc_goal_in.nd rfl (by first | exact .inl rfl | exact .inr rfl)) (p_gsc (p_gn (i := 5) sc_goal_in.nd rfl (by first | exact .inl rfl | exact .inr rfl)) p_gsn)))))
  (p_sone (p_ret (p_c C_leading_in (gu hg) (hr.mono (by decide)) (by rfl) hK.symm hw.symm hP (p_cons (PL.pv 4) (p_cons (p_c C_all_without (gu hg) (hr.mono (by decide)) (by rfl) hK.symm hw.symm hP (p_cons (PL.pv 3) (p_cons (PL.pv 1) p_nil))) (p_cons (PL.pv 2) p_nil)))))))
theorem ok_together {f c : Addr} {fd : FuncData} (F : FunC K "together" "together" s_together f fd c) (T : Blt mg)  : FnG P w K mg base 1 f fd ["lot", "other"] (Qs K w Ps d_together) :=
  fn_ok (k := 0) F sc_together (by decide) rfl fun A outer s H g hg hr hK hw hP how => (p_sone (p_ret (p_tupOf hK.symm (by rfl) T.tuple (p_sortedSet rfl hK.symm (by rfl) T.sorted (by rfl) T.set (p_bin op_addA (o_add hK.symm) (PL.pv 0) (PL.pv 1))))))
theorem ok_lot_without {f c : Addr} {fd : FuncData} (F : FunC K "lot_without" "lot_without" s_lot_without f fd c) (T : Blt mg) {Pt : Addr} (TB : TabB base mg c Pt) (hPt : Pt ∈ Ps) : FnG P w K mg base 1 f fd ["lot", "other"] (Qs K w Ps d_lot_without) :=
  fn_ok (k := 0) F sc_lot_without (by decide) rfl fun A outer s H g hg hr hK hw hP how => (p_sone (p_ret (p_g1T k_tup eat_tuple (by rw [hP]; exact hPt) hr (by rfl) T.tuple (by decide +kernel) TB rfl (gn_by (sc := defScope s_lot_without) (by decide +kernel)) (s1_seq hK.symm (PL.pv 0) hr.hd) (ts_one (t_notin hK.symm (l_loc 0 rfl (by decide +kernel)) (l_free 1 rfl (by decide +kernel) rfl))) (l_loc 0 rfl (by decide +kernel)))))
theorem ok_goal_behind {f c : Addr} {fd : FuncData} (F : FunC K "goal_behind" "goal_behind" s_goal_behind f fd c) (T : Blt mg) (C_goal_in : Cal P w K mg base Ps 2 "goal_in" ["drawing", "closed", "ends"] d_goal_in) (C_together : Cal P w K mg base Ps 1 "together" ["lot", "other"] d_together) (C_lot_without : Cal P w K mg base Ps 1 "lot_without" ["lot", "other"] d_lot_without) : FnG P w K mg base 3 f fd ["question", "moved"] (Qs K w Ps d_goal_behind) :=
  fn_ok (k := 2) F sc_goal_behind (by decide) rfl fun A outer s H g hg hr hK hw hP how => (p_scons (p_asg (PL.pv 0) (p_gt hK.symm rfl (p_gsc (p_gn (i := 2) sc_goal_behind.nd rfl (by first | exact .inl rfl | exact .inr rfl)) (p_gsc (p_gn (i := 3) sc_goal_behind.nd rfl (by first | exact .inl rfl | exact .inr rfl)) (p_gsc (p_gn (i := 4) sc_goal_behind.nd rfl (by first | exact .inl rfl | exact .inr rfl)) (p_gsc (p_gn (i := 5) sc_goal_behind.nd rfl (by first | exact .inl rfl | exact .inr rfl)) (p_gsc (p_gn (i := 6) sc_goal_behind.nd rfl (by first | exact .inl rfl | exact .inr rfl)) p_gsn)))))))
  (p_sone (p_ret (p_c C_goal_in (gu hg) (hr.mono (by decide)) (by rfl) hK.symm hw.symm hP (p_cons (PL.pv 2) (p_cons (p_c C_together (gu hg) (hr.mono (by decide)) (by rfl) hK.symm hw.symm hP (p_cons (PL.pv 4) (p_cons (PL.pv 1) p_nil))) (p_cons (p_c C_together (gu hg) (hr.mono (by decide)) (by rfl) hK.symm hw.symm hP (p_cons (p_c C_lot_without (gu hg) (hr.mono (by decide)) (by rfl) hK.symm hw.symm hP (p_cons (PL.pv 5) (p_cons (PL.pv 1) p_nil))) (p_cons (PL.pv 6) p_nil))) p_nil)))))))
theorem ok_is_row_of {f c : Addr} {fd : FuncData} (F : FunC K "is_row_of" "is_row_of" s_is_row_of f fd c) (T : Blt mg) {Pt : Addr} (TB : TabB base mg c Pt) (hPt : Pt ∈ Ps) : FnG P w K mg base 1 f fd ["lot", "value"] (Qs K w Ps d_is_row_of) :=
  fn_ok (k := 0) F sc_is_row_of (by decide) rfl fun A outer s H g hg hr hK hw hP how => (p_scons (p_if (PW.pt (p_wor (p_tisT1 hK.symm (by rfl) T.type (by rfl) T.tuple (by decide +kernel) (PL.pv 1)) (p_wor1 (p_tcmp op_gt o_gt (p_len hK.symm (by rfl) T.len (PL.pv 1)) (p_len hK.symm (by rfl) T.len (PL.pv 0)) (nomark _))))) (p_sone (p_ret p_bl)) p_snil)
  (p_scons (p_if (p_tnot (p_tru hK.symm (p_g1B k_all eat_all (by rw [hP]; exact hPt) hr (by rfl) T.all (by decide +kernel) TB rfl (gn_by (sc := defScope s_is_row_of) (by decide +kernel)) (s1_seq hK.symm (PL.pv 1) hr.hd) ts_nil (l_bool (v_and (v_isT hK.symm (l_loc 0 rfl (by decide +kernel)) (by decide +kernel) T.type (by decide +kernel) T.int (by decide +kernel)) (v_and1 (v_in hK.symm (l_loc 0 rfl (by decide +kernel)) (l_free 0 rfl (by decide +kernel) rfl)))))))) (p_sone (p_ret p_bl)) p_snil)
  (p_sone (p_ret (p_cmp (op_eqD hr.units) (o_eq hK.symm) (p_lenSet rfl hK.symm (by rfl) T.len (by rfl) T.set (PL.pv 1)) (p_len hK.symm (by rfl) T.len (PL.pv 1)) (nomark _))))))
theorem ok_goal {f c : Addr} {fd : FuncData} (F : FunC K "goal" "goal" s_goal f fd c) (T : Blt mg) (C_need_question : Cal P w K mg base Ps 5 "need_question" ["question"] d_need_question) (C_is_row_of : Cal P w K mg base Ps 1 "is_row_of" ["lot", "value"] d_is_row_of) (C_goal_behind : Cal P w K mg base Ps 3 "goal_behind" ["question", "moved"] d_goal_behind) : FnG P w K mg base 6 f fd ["question", "moved"] (Qs K w Ps d_goal) :=
  fn_ok (k := 5) F sc_goal (by decide) rfl fun A outer s H g hg hr hK hw hP how => (p_scons (p_expr (p_c C_need_question (gu hg) (hr.mono (by decide)) (by rfl) hK.symm hw.symm hP (p_cons (PL.pv 0) p_nil)))
  (p_scons (p_if (p_tnot (p_tru hK.symm (p_c C_is_row_of (gu hg) (hr.mono (by decide)) (by rfl) hK.symm hw.symm hP (p_cons (p_ix hK.symm (PL.pv 0) p_int (fun _ _ => rfl)) (p_cons (PL.pv 1) p_nil))))) (p_sone p_never) p_snil)
  (p_sone (p_ret (p_c C_goal_behind (gu hg) (hr.mono (by decide)) (by rfl) hK.symm hw.symm hP (p_cons (PL.pv 0) (p_cons (PL.pv 1) p_nil)))))))
theorem ok_w_comes {f c : Addr} {fd : FuncData} (F : FunC K "_law_comes" "_law_comes" s_w_comes f fd c) (T : Blt mg) (k : PySem.W.keepIn K (.ref f) = true) (b : Binds K fd ["arrows_so", "outside", "spot", "targets"] []) (m : mg "_law_comes" = some (.ref f))  : ∀ i, FnG P w K mg base (1 + i) f fd ["arrows_so", "outside", "spot", "targets"] (Qs K w Ps (d_w_comes i))
  | 0 => fn_none (N := n_w_comes) F
  | i + 1 => by
    have ih := ok_w_comes F T k b m  i
    have C_w_comes : Cal P w K mg base Ps (1 + i) "_law_comes" ["arrows_so", "outside", "spot", "targets"] (d_w_comes i) := ⟨f, fd, ih, k, b, m⟩
    exact fn_ok F sc_w_comes (by decide) rfl fun A outer s H g hg hr hK hw hP how => (p_scons (p_if (p_tcmp op_in_seq (o_in false hK.symm) (PL.pv 2) (PL.pv 3) (by with_unfolding_all rfl)) (p_sone (p_ret p_bl)) p_snil)
  (p_scons (p_for PassesOwn.never rfl (p_iseq hK.symm (PL.pv 0)) (p_gt hK.symm rfl (p_gsc (p_gn (i := 4) sc_w_comes.nd rfl (by first | exact .inl rfl | exact .inr rfl)) (p_gsc (p_gn (i := 5) sc_w_comes.nd rfl (by first | exact .inl rfl | exact .inr rfl)) p_gsn))) (p_sone (p_if (PW.pt (p_wand (p_tcmp (op_eqD hr.units) (o_eq hK.symm) (PL.pv 4) (PL.pv 2) (nomark _)) (p_wand (p_tcmp op_in_seq (o_in false hK.symm) (PL.pv 5) (PL.pv 1) (by with_unfolding_all rfl)) (p_wand1 (p_tru hK.symm (p_c C_w_comes (gu hg) hr (by rfl) hK.symm hw.symm hP (p_cons (PL.pv 0) (p_cons (PL.pv 1) (p_cons (PL.pv 5) (p_cons (PL.pv 3) p_nil)))))))))) (p_sone (p_ret p_bl)) p_snil)))
  (p_sone (p_ret p_bl))))
theorem ok_w_due {f c : Addr} {fd : FuncData} (F : FunC K "_law_due" "_law_due" s_w_due f fd c) (T : Blt mg) (C_w_comes : Cal P w K mg base Ps 10 "_law_comes" ["arrows_so", "outside", "spot", "targets"] (d_w_comes 9)) : FnG P w K mg base 11 f fd ["asked_so", "told"] (Qs K w Ps d_w_due) :=
  fn_ok (k := 10) F sc_w_due (by decide) rfl fun A outer s H g hg hr hK hw hP how => (p_scons (p_asg (PL.pv 0) (p_gt hK.symm rfl (p_gsc (p_gn (i := 2) sc_w_due.nd rfl (by first | exact .inl rfl | exact .inr rfl)) (p_gsc (p_gn (i := 3) sc_w_due.nd rfl (by first | exact .inl rfl | exact .inr rfl)) (p_gsc (p_gn (i := 4) sc_w_due.nd rfl (by first | exact .inl rfl | exact .inr rfl)) (p_gsc (p_gn (i := 5) sc_w_due.nd rfl (by first | exact .inl rfl | exact .inr rfl)) (p_gsc (p_gn (i := 6) sc_w_due.nd rfl (by first | exact .inl rfl | exact .inr rfl)) p_gsn)))))))
  (p_scons (p_set (i := 7) sc_w_due.nd rfl (by first | exact .inl rfl | exact .inr rfl) (p_lc (own := [("spot", 8)]) rfl sc_w_due.nd (p_irg1 (by rfl) T.range (p_cons (p_ix hK.symm (PL.pv 2) p_int (fun _ _ => rfl)) p_nil)) (blkOk_by (by rfl)) (by decide) (fun _ _ _ _ _ _ => (p_gn (i := 8) sc_w_due.nd rfl (by first | exact .inl rfl | exact .inr rfl))) (fun _ _ _ _ _ _ => (p_ts1 (PW.pt (p_wand (p_tcmp op_notIn_seq (o_in true hK.symm) (PL.pv 8) (PL.pv 4) (by with_unfolding_all rfl)) (p_wand1 (p_tcmp op_notIn_seq (o_in true hK.symm) (PL.pv 8) (PL.pv 1) (by with_unfolding_all rfl))))))) (fun _ _ _ _ _ _ => (PL.pv 8))))
  (p_scons (p_set (i := 6) sc_w_due.nd rfl (by first | exact .inl rfl | exact .inr rfl) (p_bin op_addA (o_add hK.symm) (PL.pv 6) (p_tupOf hK.symm (by rfl) T.tuple (p_lc (own := [("spot", 8)]) rfl sc_w_due.nd (p_iseq hK.symm (PL.pv 5)) (blkOk_by (by rfl)) (by decide) (fun _ _ _ _ _ _ => (p_gn (i := 8) sc_w_due.nd rfl (by first | exact .inl rfl | exact .inr rfl))) (fun _ _ _ _ _ _ => (p_ts1 (p_tcmp op_notIn_seq (o_in true hK.symm) (PL.pv 8) (PL.pv 1) (by with_unfolding_all rfl)))) (fun _ _ _ _ _ _ => (PL.pv 8))))))
  (p_sone (p_ret (p_tupOf hK.symm (by rfl) T.tuple (p_lc (own := [("spot", 8)]) rfl sc_w_due.nd (p_iseq hK.symm (PL.pv 7)) (blkOk_by (by rfl)) (by decide) (fun _ _ _ _ _ _ => (p_gn (i := 8) sc_w_due.nd rfl (by first | exact .inl rfl | exact .inr rfl))) (fun _ _ _ _ _ _ => (p_ts1 (p_tru hK.symm (p_c C_w_comes (gu hg) (hr.mono (by decide)) (by rfl) hK.symm hw.symm hP (p_cons (p_ix hK.symm (PL.pv 2) p_int (fun _ _ => rfl)) (p_cons (PL.pv 7) (p_cons (PL.pv 8) (p_cons (PL.pv 6) p_nil)))))))) (fun _ _ _ _ _ _ => (PL.pv 8)))))))))
theorem ok_w_moves {f c : Addr} {fd : FuncData} (F : FunC K "_law_moves" "_law_moves" s_w_moves f fd c) (T : Blt mg)  : FnG P w K mg base 1 f fd ["seen_so"] (Qs K w Ps d_w_moves) :=
  fn_ok (k := 0) F sc_w_moves (by decide) rfl fun A outer s H g hg hr hK hw hP how => (p_scons (p_par (i := 1) (j := 2) rfl sc_w_moves.nd rfl rfl (by decide) (by rfl) (by rfl) (p_cons (p_lst (p_cons (p_tup p_nil) p_nil)) (p_cons (p_lst (p_cons (p_tup p_nil) p_nil)) p_nil)) (by rfl))
  (p_scons (p_for PassesOwn.never rfl (p_irg1 (by rfl) T.range (p_cons p_int p_nil)) (p_gn (i := 3) sc_w_moves.nd rfl (by first | exact .inl rfl | exact .inr rfl)) (p_scons (p_set (i := 4) sc_w_moves.nd rfl (by first | exact .inl rfl | exact .inr rfl) (p_lst p_nil))
  (p_scons (p_for PassesOwn.never rfl (p_iseq hK.symm (PL.pv 2)) (p_gn (i := 5) sc_w_moves.nd rfl (by first | exact .inl rfl | exact .inr rfl)) (p_sone (p_set (i := 4) sc_w_moves.nd rfl (by first | exact .inl rfl | exact .inr rfl) (p_bin op_addA (o_add hK.symm) (PL.pv 4) (p_lc (own := [("spot", 6)]) rfl sc_w_moves.nd (p_iseq hK.symm (p_sl hK.symm (PL.pv 0) p_o0 (p_o1 p_int))) (blkOk_by (by rfl)) (by decide) (fun _ _ _ _ _ _ => (p_gn (i := 6) sc_w_moves.nd rfl (by first | exact .inl rfl | exact .inr rfl))) (fun _ _ _ _ _ _ => (p_ts1 (p_tcmp op_notIn_seq (o_in true hK.symm) (PL.pv 6) (PL.pv 5) (by with_unfolding_all rfl)))) (fun _ _ _ _ _ _ => (p_bin op_addA (o_add hK.symm) (PL.pv 5) (p_tup (p_cons (PL.pv 6) p_nil)))))))))
  (p_sone (p_par (i := 1) (j := 2) rfl sc_w_moves.nd rfl rfl (by decide) (by rfl) (by rfl) (p_cons (p_bin op_addA (o_add hK.symm) (PL.pv 1) (PL.pv 4)) (p_cons (PL.pv 4) p_nil)) (by rfl))))))
  (p_sone (p_ret (PL.pv 1)))))
theorem ok_things_in {f c : Addr} {fd : FuncData} (F : FunC K "things_in" "things_in" s_things_in f fd c) (T : Blt mg) (C_together : Cal P w K mg base Ps 1 "together" ["lot", "other"] d_together) : FnG P w K mg base 2 f fd ["question"] (Qs K w Ps d_things_in) :=
  fn_ok (k := 1) F sc_things_in (by decide) rfl fun A outer s H g hg hr hK hw hP how => (p_sone (p_ret (p_c C_together (gu hg) (hr.mono (by decide)) (by rfl) hK.symm hw.symm hP (p_cons (p_c C_together (gu hg) (hr.mono (by decide)) (by rfl) hK.symm hw.symm hP (p_cons (p_ix hK.symm (PL.pv 0) p_int (fun _ _ => rfl)) (p_cons (p_ix hK.symm (PL.pv 0) p_int (fun _ _ => rfl)) p_nil))) (p_cons (p_ix hK.symm (PL.pv 0) p_int (fun _ _ => rfl)) p_nil)))))
theorem ok_things_of {f c : Addr} {fd : FuncData} (F : FunC K "things_of" "things_of" s_things_of f fd c) (T : Blt mg) (C_need_question : Cal P w K mg base Ps 5 "need_question" ["question"] d_need_question) (C_things_in : Cal P w K mg base Ps 2 "things_in" ["question"] d_things_in) : FnG P w K mg base 6 f fd ["question"] (Qs K w Ps d_things_of) :=
  fn_ok (k := 5) F sc_things_of (by decide) rfl fun A outer s H g hg hr hK hw hP how => (p_scons (p_expr (p_c C_need_question (gu hg) (hr.mono (by decide)) (by rfl) hK.symm hw.symm hP (p_cons (PL.pv 0) p_nil)))
  (p_sone (p_ret (p_c C_things_in (gu hg) (hr.mono (by decide)) (by rfl) hK.symm hw.symm hP (p_cons (PL.pv 0) p_nil)))))
theorem ok_w_right {f c : Addr} {fd : FuncData} (F : FunC K "_law_right" "_law_right" s_w_right f fd c) (T : Blt mg) (C_w_like : Cal P w K mg base Ps 1 "_law_like" ["got", "due"] dLike) (C_things_of : Cal P w K mg base Ps 6 "things_of" ["question"] d_things_of) (C_w_due : Cal P w K mg base Ps 11 "_law_due" ["asked_so", "told"] d_w_due) (C_w_moves : Cal P w K mg base Ps 1 "_law_moves" ["seen_so"] d_w_moves) (C_goal : Cal P w K mg base Ps 6 "goal" ["question", "moved"] d_goal) : FnG P w K mg base 12 f fd ["asked_so"] (Qs K w Ps d_w_right) :=
  fn_ok (k := 11) F sc_w_right (by decide) rfl fun A outer s H g hg hr hK hw hP how => (p_scons (p_asg (PL.pv 0) (p_gt hK.symm rfl (p_gsc (p_gn (i := 1) sc_w_right.nd rfl (by first | exact .inl rfl | exact .inr rfl)) (p_gsc (p_gn (i := 2) sc_w_right.nd rfl (by first | exact .inl rfl | exact .inr rfl)) (p_gsc (p_gn (i := 3) sc_w_right.nd rfl (by first | exact .inl rfl | exact .inr rfl)) (p_gsc (p_gn (i := 4) sc_w_right.nd rfl (by first | exact .inl rfl | exact .inr rfl)) (p_gsc (p_gn (i := 5) sc_w_right.nd rfl (by first | exact .inl rfl | exact .inr rfl)) p_gsn)))))))
  (p_scons (p_if (p_tnot (p_tru hK.symm (p_c C_w_like (gu hg) (hr.mono (by decide)) (by rfl) hK.symm hw.symm hP (p_cons (p_c C_things_of (gu hg) (hr.mono (by decide)) (by rfl) hK.symm hw.symm hP (p_cons (PL.pv 0) p_nil)) (p_cons (p_tupOf hK.symm (by rfl) T.tuple (p_sorted rfl hK.symm (by rfl) T.sorted (p_bin op_addA (o_add hK.symm) (p_bin op_addA (o_add hK.symm) (PL.pv 3) (PL.pv 4)) (PL.pv 5)))) p_nil))))) (p_sone (p_ret p_bl)) p_snil)
  (p_scons (p_set (i := 6) sc_w_right.nd rfl (by first | exact .inl rfl | exact .inr rfl) (p_c C_w_due (gu hg) (hr.mono (by decide)) (by rfl) hK.symm hw.symm hP (p_cons (PL.pv 0) (p_cons (p_tup p_nil) p_nil))))
  (p_scons (p_for PassesOwn.never rfl (p_iseq hK.symm (p_c C_w_moves (gu hg) (hr.mono (by decide)) (by rfl) hK.symm hw.symm hP (p_cons (PL.pv 4) p_nil))) (p_gn (i := 7) sc_w_right.nd rfl (by first | exact .inl rfl | exact .inr rfl)) (p_scons (p_set (i := 8) sc_w_right.nd rfl (by first | exact .inl rfl | exact .inr rfl) (p_c C_goal (gu hg) (hr.mono (by decide)) (by rfl) hK.symm hw.symm hP (p_cons (PL.pv 0) (p_cons (PL.pv 7) p_nil))))
  (p_scons (p_if (p_tnot (p_tru hK.symm (p_c C_w_like (gu hg) (hr.mono (by decide)) (by rfl) hK.symm hw.symm hP (p_cons (PL.pv 8) (p_cons (p_c C_w_due (gu hg) (hr.mono (by decide)) (by rfl) hK.symm hw.symm hP (p_cons (PL.pv 0) (p_cons (PL.pv 7) p_nil))) p_nil))))) (p_sone (p_ret p_bl)) p_snil)
  (p_scons (p_if (p_tcmp (op_neD hr.units) (o_ne hK.symm) (p_lc (own := [("spot", 9)]) rfl sc_w_right.nd (p_iseq hK.symm (PL.pv 8)) (blkOk_by (by rfl)) (by decide) (fun _ _ _ _ _ _ => (p_gn (i := 9) sc_w_right.nd rfl (by first | exact .inl rfl | exact .inr rfl))) (fun _ _ _ _ _ _ => (p_ts1 (PW.pt (p_wor (p_tcmp op_notIn_seq (o_in true hK.symm) (PL.pv 9) (PL.pv 6) (by with_unfolding_all rfl)) (p_wor (p_tcmp op_in_seq (o_in false hK.symm) (PL.pv 9) (PL.pv 3) (by with_unfolding_all rfl)) (p_wor1 (p_tcmp op_in_seq (o_in false hK.symm) (PL.pv 9) (PL.pv 7) (by with_unfolding_all rfl)))))))) (fun _ _ _ _ _ _ => p_int)) (p_lst p_nil) (nomark _)) (p_sone (p_ret p_bl)) p_snil)
  (p_scons (p_for PassesOwn.never rfl (p_iseq hK.symm (p_ix hK.symm (PL.pv 1) p_int (fun _ _ => rfl))) (p_gt hK.symm rfl (p_gsc (p_gn (i := 10) sc_w_right.nd rfl (by first | exact .inl rfl | exact .inr rfl)) (p_gsc (p_gn (i := 11) sc_w_right.nd rfl (by first | exact .inl rfl | exact .inr rfl)) p_gsn))) (p_sone (p_if (PW.pt (p_wand (p_tcmp op_in_seq (o_in false hK.symm) (PL.pv 11) (PL.pv 8) (by with_unfolding_all rfl)) (p_wand (p_tcmp op_notIn_seq (o_in true hK.symm) (PL.pv 10) (PL.pv 8) (by with_unfolding_all rfl)) (p_wand (p_tcmp op_notIn_seq (o_in true hK.symm) (PL.pv 10) (PL.pv 3) (by with_unfolding_all rfl)) (p_wand1 (p_tcmp op_notIn_seq (o_in true hK.symm) (PL.pv 10) (PL.pv 7) (by with_unfolding_all rfl))))))) (p_sone (p_ret p_bl)) p_snil)))
  (p_sone (p_if (p_tcmp (op_neD hr.units) (o_ne hK.symm) (p_lc (own := [("spot", 9)]) rfl sc_w_right.nd (p_iseq hK.symm (PL.pv 5)) (blkOk_by (by rfl)) (by decide) (fun _ _ _ _ _ _ => (p_gn (i := 9) sc_w_right.nd rfl (by first | exact .inl rfl | exact .inr rfl))) (fun _ _ _ _ _ _ => (p_ts1 (p_tcmp op_notIn_seq (o_in true hK.symm) (PL.pv 9) (PL.pv 8) (by with_unfolding_all rfl)))) (fun _ _ _ _ _ _ => p_int)) (p_lst p_nil) (nomark _)) (p_sone (p_ret p_bl)) p_snil)))))))
  (p_sone (p_ret p_bl))))))
theorem ok_w_question {f c : Addr} {fd : FuncData} (F : FunC K "_law_question" "_law_question" s_w_question f fd c) (T : Blt mg) (C_w_draw : Cal P w K mg base Ps 2 "_law_draw" ["state", "limit"] dDraw) : FnG P w K mg base 3 f fd ["state", "draw_so"] (Qs K w Ps d_w_question) :=
  fn_ok (k := 2) F sc_w_question (by decide) rfl fun A outer s H g hg hr hK hw hP how => (r_base (r_ownL (i := 2) .base (NJ.nil how) (ps_set (i := 2) sc_w_question.nd rfl (by first | exact .inl rfl | exact .inr rfl) (n_lc (own := [("spot", 3)]) rfl sc_w_question.nd (p_irg1 (by rfl) T.range (p_cons (p_ix hK.symm (PL.pv 1) p_int (fun _ _ => rfl)) p_nil)) (blkOk_by (by rfl)) (by decide) (fun _ _ _ _ _ _ => (p_gn (i := 3) sc_w_question.nd rfl (by first | exact .inl rfl | exact .inr rfl))) (fun _ _ _ _ _ _ => p_tsn) (fun _ _ _ _ _ _ => (p_c C_w_draw (gu hg) (hr.mono (by decide)) (by rfl) hK.symm hw.symm hP (p_cons (PL.pv 0) (p_cons p_int p_nil)))))) (fun _ o0 => (r_cons o0 (p_setI (i := 2) rfl (by first | exact .inl rfl | exact .inr (.inl rfl) | exact .inr (.inr rfl)) p_int (p_c C_w_draw (gu hg) (hr.mono (by decide)) (by rfl) hK.symm hw.symm hP (p_cons (PL.pv 0) (p_cons (p_ix hK.symm (PL.pv 1) p_int (fun _ _ => rfl)) p_nil)))) (r_rel o0 (p_scons (p_setLc (i := 4) (own := [("told", 6)]) rfl sc_w_question.nd rfl rfl (sw_true rfl rfl rfl (by decide +kernel)) (p_irg1 (by rfl) T.range (p_cons p_int p_nil)) (blkOk_by (by rfl)) (by decide) (fun _ _ _ _ _ _ => (p_gn (i := 6) sc_w_question.nd rfl (by first | exact .inl rfl | exact .inr rfl))) (fun _ _ _ _ _ _ => p_tsn) (fun _ _ _ _ _ _ => (p_tupOf hK.symm (by rfl) T.tuple (p_lc (own := [("spot", 3), ("kind", 5)]) rfl sc_w_question.nd (p_ienum hK.symm (by rfl) T.enumerate (p_cons (PL.pv 2) p_nil)) (blkOk_by (by rfl)) (by decide) (fun _ _ _ _ _ _ => (p_gt hK.symm rfl (p_gsc (p_gn (i := 3) sc_w_question.nd rfl (by first | exact .inl rfl | exact .inr rfl)) (p_gsc (p_gn (i := 5) sc_w_question.nd rfl (by first | exact .inl rfl | exact .inr rfl)) p_gsn)))) (fun _ _ _ _ _ _ => (p_ts1 (p_tcmp (op_eqD hr.units) (o_eq hK.symm) (PL.pv 5) (PL.pv 6) (nomark _)))) (fun _ _ _ _ _ _ => (PL.pv 3))))))
  (p_scons (p_set (i := 7) sc_w_question.nd rfl (by first | exact .inl rfl | exact .inr rfl) (p_tupOf hK.symm (by rfl) T.tuple (p_lc (own := [("spot", 3)]) rfl sc_w_question.nd (p_iseq hK.symm (p_ix hK.symm (PL.pv 4) p_int (fun _ _ => rfl))) (blkOk_by (by rfl)) (by decide) (fun _ _ _ _ _ _ => (p_gn (i := 3) sc_w_question.nd rfl (by first | exact .inl rfl | exact .inr rfl))) (fun _ _ _ _ _ _ => (p_ts1 (p_tcmp (op_eqD hr.units) (o_eq hK.symm) (p_c C_w_draw (gu hg) (hr.mono (by decide)) (by rfl) hK.symm hw.symm hP (p_cons (PL.pv 0) (p_cons p_int p_nil))) p_int (nomark _)))) (fun _ _ _ _ _ _ => (PL.pv 3)))))
  (p_sone (p_ret (p_tup (p_cons (PL.pv 1) (p_cons (PL.pv 7) (p_cons (p_ix hK.symm (PL.pv 4) p_int (fun _ _ => rfl)) (p_cons (p_ix hK.symm (PL.pv 4) p_int (fun _ _ => rfl)) (p_cons (p_ix hK.symm (PL.pv 4) p_int (fun _ _ => rfl)) p_nil)))))))))))))))
theorem ok_w_drawing {f c : Addr} {fd : FuncData} (F : FunC K "_law_drawing" "_law_drawing" s_w_drawing f fd c) (T : Blt mg) (C_w_draw : Cal P w K mg base Ps 2 "_law_draw" ["state", "limit"] dDraw) : FnG P w K mg base 3 f fd ["state", "low", "high"] (Qs K w Ps d_w_drawing) :=
  fn_ok (k := 2) F sc_w_drawing (by decide) rfl fun A outer s H g hg hr hK hw hP how => (p_scons (p_set (i := 3) sc_w_drawing.nd rfl (by first | exact .inl rfl | exact .inr rfl) (p_bin op_addA (o_add hK.symm) (PL.pv 1) (p_c C_w_draw (gu hg) (hr.mono (by decide)) (by rfl) hK.symm hw.symm hP (p_cons (PL.pv 0) (p_cons (p_bin op_addA (o_add hK.symm) (p_bin op_sub o_sub (PL.pv 2) (PL.pv 1)) p_int) p_nil)))))
  (p_scons (p_par (i := 4) (j := 5) rfl sc_w_drawing.nd rfl rfl (by decide) (by rfl) (by rfl) (p_cons (p_lst p_nil) (p_cons (p_lst p_nil) p_nil)) (by rfl))
  (p_scons (p_for PassesOwn.never rfl (p_irg1 (by rfl) T.range (p_cons (PL.pv 3) p_nil)) (p_gn (i := 6) sc_w_drawing.nd rfl (by first | exact .inl rfl | exact .inr rfl)) (p_scons (p_set (i := 4) sc_w_drawing.nd rfl (by first | exact .inl rfl | exact .inr rfl) (p_bin op_addA (o_add hK.symm) (PL.pv 4) (p_lc (own := [("far", 7)]) rfl sc_w_drawing.nd (p_irg2 (by rfl) T.range (p_cons (p_bin op_addA (o_add hK.symm) (PL.pv 6) p_int) (p_cons (PL.pv 3) p_nil))) (blkOk_by (by rfl)) (by decide) (fun _ _ _ _ _ _ => (p_gn (i := 7) sc_w_drawing.nd rfl (by first | exact .inl rfl | exact .inr rfl))) (fun _ _ _ _ _ _ => (p_ts1 (p_tcmp (op_eqD hr.units) (o_eq hK.symm) (p_c C_w_draw (gu hg) (hr.mono (by decide)) (by rfl) hK.symm hw.symm hP (p_cons (PL.pv 0) (p_cons p_int p_nil))) p_int (nomark _)))) (fun _ _ _ _ _ _ => (p_tup (p_cons (PL.pv 6) (p_cons (PL.pv 7) p_nil)))))))
  (p_sone (p_set (i := 5) sc_w_drawing.nd rfl (by first | exact .inl rfl | exact .inr rfl) (p_bin op_addA (o_add hK.symm) (PL.pv 5) (p_lc (own := [("far", 7)]) rfl sc_w_drawing.nd (p_irg2 (by rfl) T.range (p_cons (p_bin op_addA (o_add hK.symm) (PL.pv 6) p_int) (p_cons (PL.pv 3) p_nil))) (blkOk_by (by rfl)) (by decide) (fun _ _ _ _ _ _ => (p_gn (i := 7) sc_w_drawing.nd rfl (by first | exact .inl rfl | exact .inr rfl))) (fun _ _ _ _ _ _ => (p_ts1 (p_tcmp (op_eqD hr.units) (o_eq hK.symm) (p_c C_w_draw (gu hg) (hr.mono (by decide)) (by rfl) hK.symm hw.symm hP (p_cons (PL.pv 0) (p_cons p_int p_nil))) p_int (nomark _)))) (fun _ _ _ _ _ _ => (p_tup (p_cons (PL.pv 6) (p_cons (PL.pv 7) p_nil))))))))))
  (p_sone (p_ret (p_tup (p_cons (PL.pv 3) (p_cons (p_tupOf hK.symm (by rfl) T.tuple (PL.pv 4)) (p_cons (p_tupOf hK.symm (by rfl) T.tuple (p_sl hK.symm (PL.pv 5) p_o0 (p_o1 p_int))) p_nil)))))))))
theorem ok_law {f c fB : Addr} {fd fdB : FuncData} (F : FunC K "law" "law" s_law f fd c) (T : Blt mg) (FB : FnG P w K mg base 1 fB fdB ["script"] (spBegin K)) (kB : PySem.W.keepIn K (.ref fB) = true) (bB : Binds K fdB ["script"] []) (mB : mg "_law_begin" = some (.ref fB)) (C_w_right : Cal P w K mg base Ps 12 "_law_right" ["asked_so"] d_w_right) (C_w_question : Cal P w K mg base Ps 3 "_law_question" ["state", "draw_so"] d_w_question) (C_w_drawing : Cal P w K mg base Ps 3 "_law_drawing" ["state", "low", "high"] d_w_drawing) (C_goal : Cal P w K mg base Ps 6 "goal" ["question", "moved"] d_goal) (C_w_like : Cal P w K mg base Ps 1 "_law_like" ["got", "due"] dLike)
    (hwp : (t_law ((List.replicate n_law.length none).set 1 (some (.dict [])))).wp 0 (fun fl _ => fl = .rt (.bool true)) fun _ _ => False) : FnG P w K mg base 13 f fd ["script"] (QLaw K Ps) :=
  p_law (i := 1) (t := t_law) F sc_law rfl (by decide) (by decide) rfl FB (fun A outer s H hg hr => ps_set (i := 1) sc_law.nd rfl (by first | exact .inl rfl | exact .inr rfl) (pg_call FB (gu hg) (hr.mono (by decide)) (by rfl) mB kB bB (pa_cons (L2.pv 0) pa_nil)))
    (fun A outer s H g hg hr hK hw hP how => (p_scons (p_for PassesOwn.never rfl (p_irg1 (by rfl) T.range (p_cons p_int p_nil)) (p_gn (i := 2) sc_law.nd rfl (by first | exact .inl rfl | exact .inr rfl)) (p_sone (p_if (p_tnot (p_tru hK.symm (p_c C_w_right (gu hg) (hr.mono (by decide)) (by rfl) hK.symm hw.symm hP (p_cons (p_c C_w_question (gu hg) (hr.mono (by decide)) (by rfl) hK.symm hw.symm hP (p_cons (PL.pv 1) (p_cons (p_c C_w_drawing (gu hg) (hr.mono (by decide)) (by rfl) hK.symm hw.symm hP (p_cons (PL.pv 1) (p_cons p_int (p_cons p_int p_nil)))) p_nil))) p_nil)))) (p_sone (p_ret p_bl)) p_snil)))
  (p_scons (p_set (i := 3) sc_law.nd rfl (by first | exact .inl rfl | exact .inr rfl) (p_tup (p_cons (p_tup (p_cons p_int (p_cons (p_tup (p_cons (p_tup (p_cons p_int (p_cons p_int p_nil))) (p_cons (p_tup (p_cons p_int (p_cons p_int p_nil))) (p_cons (p_tup (p_cons p_int (p_cons p_int p_nil))) p_nil)))) (p_cons (p_tup p_nil) p_nil)))) (p_cons (p_tup p_nil) (p_cons (p_tup p_nil) (p_cons (p_tup (p_cons p_int (p_cons p_int p_nil))) (p_cons (p_tup (p_cons p_int p_nil)) p_nil)))))))
  (p_scons (p_set (i := 4) sc_law.nd rfl (by first | exact .inl rfl | exact .inr rfl) (p_lst (p_cons (p_c C_goal (gu hg) (hr.mono (by decide)) (by rfl) hK.symm hw.symm hP (p_cons (PL.pv 3) (p_cons (p_tup p_nil) p_nil))) (p_cons (p_c C_goal (gu hg) (hr.mono (by decide)) (by rfl) hK.symm hw.symm hP (p_cons (PL.pv 3) (p_cons (p_tup (p_cons p_int p_nil)) p_nil))) (p_cons (p_c C_goal (gu hg) (hr.mono (by decide)) (by rfl) hK.symm hw.symm hP (p_cons (PL.pv 3) (p_cons (p_tup (p_cons p_int p_nil)) p_nil))) (p_cons (p_c C_goal (gu hg) (hr.mono (by decide)) (by rfl) hK.symm hw.symm hP (p_cons (PL.pv 3) (p_cons (p_tup (p_cons p_int (p_cons p_int p_nil))) p_nil))) p_nil))))))
  (p_sone (p_ret (p_c C_w_like (gu hg) (hr.mono (by decide)) (by rfl) hK.symm hw.symm hP (p_cons (PL.pv 4) (p_cons (p_lst (p_cons (p_tup (p_cons p_int (p_cons p_int (p_cons p_int (p_cons p_int p_nil))))) (p_cons (p_tup (p_cons p_int (p_cons p_int (p_cons p_int p_nil)))) (p_cons (p_tup (p_cons p_int (p_cons p_int (p_cons p_int p_nil)))) (p_cons (p_tup (p_cons p_int p_nil)) p_nil))))) p_nil))))))))) hwp
end
end L24
set_option Elab.async false
set_option linter.all false
set_option maxRecDepth 100000
set_option maxHeartbeats 8000000
namespace L24
open PySem L2 G9 GxR RT PyProof.Rows PySem.W PG
open PL hiding pv
theorem law_G {l : PySem.W.OpenLaw} {q : Program} {loose : List Str} {w : World} {mean : ExcName → Option Value} {K : PySem.W.Frag} {mg mb : Str → Option Value} {fa : Addr} {h : Heap} (X : K.In h) (T : Top q loose mean mg mb h) (hfa : mg "law" = some (.ref fa))
    (d31 : DefAt K "_law_begin" (top 31)) (d38 : DefAt K "_law_like" (top 38)) (d7 : DefAt K "is_integer" (top 7)) (d8 : DefAt K "is_lot" (top 8)) (d21 : DefAt K "_need_arrows" (top 21)) (d22 : DefAt K "_need_causes" (top 22)) (d6 : DefAt K "is_tuple_of" (top 6)) (d20 : DefAt K "need_drawing" (top 20)) (d11 : DefAt K "meets" (top 11)) (d10 : DefAt K "lies_in" (top 10)) (d24 : DefAt K "need_question" (top 24)) (d15 : DefAt K "leading_in" (top 15)) (d14 : DefAt K "all_without" (top 14)) (d16 : DefAt K "goal_in" (top 16)) (d12 : DefAt K "together" (top 12)) (d13 : DefAt K "lot_without" (top 13)) (d28 : DefAt K "goal_behind" (top 28)) (d9 : DefAt K "is_row_of" (top 9)) (d27 : DefAt K "goal" (top 27)) (d35 : DefAt K "_law_comes" (top 35)) (d36 : DefAt K "_law_due" (top 36)) (d37 : DefAt K "_law_moves" (top 37)) (d26 : DefAt K "things_in" (top 26)) (d25 : DefAt K "things_of" (top 25)) (d39 : DefAt K "_law_right" (top 39)) (d30 : DefAt K "_law_mixed" (top 30)) (d32 : DefAt K "_law_draw" (top 32)) (d34 : DefAt K "_law_question" (top 34)) (d33 : DefAt K "_law_drawing" (top 33)) (d40 : DefAt K "law" (top 40)) (t11 : TabK K "meets") (t10 : TabK K "lies_in") (t14 : TabK K "all_without") (t13 : TabK K "lot_without") (t9 : TabK K "is_row_of") (r11 : ∃ d, (recsOf q).find? (fun e => e.name == ("meets" : Str)) = some d) (r10 : ∃ d, (recsOf q).find? (fun e => e.name == ("lies_in" : Str)) = some d) (r14 : ∃ d, (recsOf q).find? (fun e => e.name == ("all_without" : Str)) = some d) (r13 : ∃ d, (recsOf q).find? (fun e => e.name == ("lot_without" : Str)) = some d) (r9 : ∃ d, (recsOf q).find? (fun e => e.name == ("is_row_of" : Str)) = some d) {tk0 : Tok} (n0 : PySem.W.nsIn K mainGlobals "MOST_CAUSES" = some (some (.int 20 tk0))) {tk1 : Tok} (n1 : PySem.W.nsIn K mainGlobals "_MOST_THINGS" = some (some (.int 10 tk1))) (z0 : NoneAt K "int") (z1 : NoneAt K "list") (z2 : NoneAt K "len") (z3 : NoneAt K "range") (z4 : NoneAt K "tuple") (z5 : NoneAt K "sorted") (z6 : NoneAt K "set") (z7 : NoneAt K "repr") (z8 : NoneAt K "type") (z9 : NoneAt K "any") (z10 : NoneAt K "all") (z11 : NoneAt K "enumerate") (z12 : NoneAt K "reversed") (z13 : NoneAt K "zip") (z14 : NoneAt K "sum") (z15 : NoneAt K "isinstance") (z16 : NoneAt K "min") (z17 : NoneAt K "max") (z18 : NoneAt K "str") (z19 : NoneAt K "dict") (z20 : NoneAt K "abs") (z21 : NoneAt K "bool") :
    LawG l w K 13 63 "script" mg fa h := by
  have G := T.g
  have B : PL.Blt mg := ⟨PySem.W.mg_none_of X G z0, PySem.W.mg_none_of X G z1, PySem.W.mg_none_of X G z2, PySem.W.mg_none_of X G z3, PySem.W.mg_none_of X G z4, PySem.W.mg_none_of X G z5, PySem.W.mg_none_of X G z6, PySem.W.mg_none_of X G z7, PySem.W.mg_none_of X G z8, PySem.W.mg_none_of X G z9, PySem.W.mg_none_of X G z10, PySem.W.mg_none_of X G z11, PySem.W.mg_none_of X G z12, PySem.W.mg_none_of X G z13, PySem.W.mg_none_of X G z14, PySem.W.mg_none_of X G z15, PySem.W.mg_none_of X G z16, PySem.W.mg_none_of X G z17, PySem.W.mg_none_of X G z18, PySem.W.mg_none_of X G z19, PySem.W.mg_none_of X G z20, PySem.W.mg_none_of X G z21⟩
  have cMOST_CAUSES : Cint mg "MOST_CAUSES" 20 := ⟨_, PySem.W.mg_of X G n0⟩
  have c_MOST_THINGS : Cint mg "_MOST_THINGS" 10 := ⟨_, PySem.W.mg_of X G n1⟩
  obtain ⟨f31, fd31, c31, a31, F31⟩ := d31
  have m31 := PySem.W.mg_of X G a31
  have b31 : Binds K fd31 ["script"] [] := F31.fn.binds fun _ _ _ _ _ _ us hl => match us, hl with | [_], _ => rfl
  obtain ⟨f38, fd38, c38, a38, F38⟩ := d38
  have m38 := PySem.W.mg_of X G a38
  have b38 : Binds K fd38 ["got", "due"] [] := F38.fn.binds fun _ _ _ _ _ _ us hl => match us, hl with | [_, _], _ => rfl
  obtain ⟨f7, fd7, c7, a7, F7⟩ := d7
  have m7 := PySem.W.mg_of X G a7
  have b7 : Binds K fd7 ["value", "least", "most"] [] := F7.fn.binds fun _ _ _ _ _ _ us hl => match us, hl with | [_, _, _], _ => rfl
  obtain ⟨f8, fd8, c8, a8, F8⟩ := d8
  have m8 := PySem.W.mg_of X G a8
  have b8 : Binds K fd8 ["count", "value"] [] := F8.fn.binds fun _ _ _ _ _ _ us hl => match us, hl with | [_, _], _ => rfl
  obtain ⟨f21, fd21, c21, a21, F21⟩ := d21
  have m21 := PySem.W.mg_of X G a21
  have b21 : Binds K fd21 ["count", "arrows"] [] := F21.fn.binds fun _ _ _ _ _ _ us hl => match us, hl with | [_, _], _ => rfl
  obtain ⟨f22, fd22, c22, a22, F22⟩ := d22
  have m22 := PySem.W.mg_of X G a22
  have b22 : Binds K fd22 ["count", "causes"] [] := F22.fn.binds fun _ _ _ _ _ _ us hl => match us, hl with | [_, _], _ => rfl
  obtain ⟨f6, fd6, c6, a6, F6⟩ := d6
  have m6 := PySem.W.mg_of X G a6
  have b6 : Binds K fd6 ["value", "many"] [] := F6.fn.binds fun _ _ _ _ _ _ us hl => match us, hl with | [_, _], _ => rfl
  obtain ⟨f20, fd20, c20, a20, F20⟩ := d20
  have m20 := PySem.W.mg_of X G a20
  have b20 : Binds K fd20 ["drawing"] [] := F20.fn.binds fun _ _ _ _ _ _ us hl => match us, hl with | [_], _ => rfl
  obtain ⟨f11, fd11, c11, a11, F11⟩ := d11
  have m11 := PySem.W.mg_of X G a11
  have b11 : Binds K fd11 ["lot", "other"] [] := F11.fn.binds fun _ _ _ _ _ _ us hl => match us, hl with | [_, _], _ => rfl
  obtain ⟨f10, fd10, c10, a10, F10⟩ := d10
  have m10 := PySem.W.mg_of X G a10
  have b10 : Binds K fd10 ["lot", "other"] [] := F10.fn.binds fun _ _ _ _ _ _ us hl => match us, hl with | [_, _], _ => rfl
  obtain ⟨f24, fd24, c24, a24, F24⟩ := d24
  have m24 := PySem.W.mg_of X G a24
  have b24 : Binds K fd24 ["question"] [] := F24.fn.binds fun _ _ _ _ _ _ us hl => match us, hl with | [_], _ => rfl
  obtain ⟨f15, fd15, c15, a15, F15⟩ := d15
  have m15 := PySem.W.mg_of X G a15
  have b15 : Binds K fd15 ["arrows", "lot", "goal"] [] := F15.fn.binds fun _ _ _ _ _ _ us hl => match us, hl with | [_, _, _], _ => rfl
  obtain ⟨f14, fd14, c14, a14, F14⟩ := d14
  have m14 := PySem.W.mg_of X G a14
  have b14 : Binds K fd14 ["count", "lot"] [] := F14.fn.binds fun _ _ _ _ _ _ us hl => match us, hl with | [_, _], _ => rfl
  obtain ⟨f16, fd16, c16, a16, F16⟩ := d16
  have m16 := PySem.W.mg_of X G a16
  have b16 : Binds K fd16 ["drawing", "closed", "ends"] [] := F16.fn.binds fun _ _ _ _ _ _ us hl => match us, hl with | [_, _, _], _ => rfl
  obtain ⟨f12, fd12, c12, a12, F12⟩ := d12
  have m12 := PySem.W.mg_of X G a12
  have b12 : Binds K fd12 ["lot", "other"] [] := F12.fn.binds fun _ _ _ _ _ _ us hl => match us, hl with | [_, _], _ => rfl
  obtain ⟨f13, fd13, c13, a13, F13⟩ := d13
  have m13 := PySem.W.mg_of X G a13
  have b13 : Binds K fd13 ["lot", "other"] [] := F13.fn.binds fun _ _ _ _ _ _ us hl => match us, hl with | [_, _], _ => rfl
  obtain ⟨f28, fd28, c28, a28, F28⟩ := d28
  have m28 := PySem.W.mg_of X G a28
  have b28 : Binds K fd28 ["question", "moved"] [] := F28.fn.binds fun _ _ _ _ _ _ us hl => match us, hl with | [_, _], _ => rfl
  obtain ⟨f9, fd9, c9, a9, F9⟩ := d9
  have m9 := PySem.W.mg_of X G a9
  have b9 : Binds K fd9 ["lot", "value"] [] := F9.fn.binds fun _ _ _ _ _ _ us hl => match us, hl with | [_, _], _ => rfl
  obtain ⟨f27, fd27, c27, a27, F27⟩ := d27
  have m27 := PySem.W.mg_of X G a27
  have b27 : Binds K fd27 ["question", "moved"] [] := F27.fn.binds fun _ _ _ _ _ _ us hl => match us, hl with | [_, _], _ => rfl
  obtain ⟨f35, fd35, c35, a35, F35⟩ := d35
  have m35 := PySem.W.mg_of X G a35
  have b35 : Binds K fd35 ["arrows_so", "outside", "spot", "targets"] [] := F35.fn.binds fun _ _ _ _ _ _ us hl => match us, hl with | [_, _, _, _], _ => rfl
  obtain ⟨f36, fd36, c36, a36, F36⟩ := d36
  have m36 := PySem.W.mg_of X G a36
  have b36 : Binds K fd36 ["asked_so", "told"] [] := F36.fn.binds fun _ _ _ _ _ _ us hl => match us, hl with | [_, _], _ => rfl
  obtain ⟨f37, fd37, c37, a37, F37⟩ := d37
  have m37 := PySem.W.mg_of X G a37
  have b37 : Binds K fd37 ["seen_so"] [] := F37.fn.binds fun _ _ _ _ _ _ us hl => match us, hl with | [_], _ => rfl
  obtain ⟨f26, fd26, c26, a26, F26⟩ := d26
  have m26 := PySem.W.mg_of X G a26
  have b26 : Binds K fd26 ["question"] [] := F26.fn.binds fun _ _ _ _ _ _ us hl => match us, hl with | [_], _ => rfl
  obtain ⟨f25, fd25, c25, a25, F25⟩ := d25
  have m25 := PySem.W.mg_of X G a25
  have b25 : Binds K fd25 ["question"] [] := F25.fn.binds fun _ _ _ _ _ _ us hl => match us, hl with | [_], _ => rfl
  obtain ⟨f39, fd39, c39, a39, F39⟩ := d39
  have m39 := PySem.W.mg_of X G a39
  have b39 : Binds K fd39 ["asked_so"] [] := F39.fn.binds fun _ _ _ _ _ _ us hl => match us, hl with | [_], _ => rfl
  obtain ⟨f30, fd30, c30, a30, F30⟩ := d30
  have m30 := PySem.W.mg_of X G a30
  have b30 : Binds K fd30 ["cell", "k"] [] := F30.fn.binds fun _ _ _ _ _ _ us hl => match us, hl with | [_, _], _ => rfl
  obtain ⟨f32, fd32, c32, a32, F32⟩ := d32
  have m32 := PySem.W.mg_of X G a32
  have b32 : Binds K fd32 ["state", "limit"] [] := F32.fn.binds fun _ _ _ _ _ _ us hl => match us, hl with | [_, _], _ => rfl
  obtain ⟨f34, fd34, c34, a34, F34⟩ := d34
  have m34 := PySem.W.mg_of X G a34
  have b34 : Binds K fd34 ["state", "draw_so"] [] := F34.fn.binds fun _ _ _ _ _ _ us hl => match us, hl with | [_, _], _ => rfl
  obtain ⟨f33, fd33, c33, a33, F33⟩ := d33
  have m33 := PySem.W.mg_of X G a33
  have b33 : Binds K fd33 ["state", "low", "high"] [] := F33.fn.binds fun _ _ _ _ _ _ us hl => match us, hl with | [_, _, _], _ => rfl
  obtain ⟨f40, fd40, c40, a40, F40⟩ := d40
  have m40 := PySem.W.mg_of X G a40
  obtain ⟨e11, P11, h11, l11⟩ := t11
  obtain ⟨q11, r11⟩ := r11
  cases def_tab X G F11 m11 h11
  have C11 := tab_of T X r11 h11
  obtain ⟨e10, P10, h10, l10⟩ := t10
  obtain ⟨q10, r10⟩ := r10
  cases def_tab X G F10 m10 h10
  have C10 := tab_of T X r10 h10
  obtain ⟨e14, P14, h14, l14⟩ := t14
  obtain ⟨q14, r14⟩ := r14
  cases def_tab X G F14 m14 h14
  have C14 := tab_of T X r14 h14
  obtain ⟨e13, P13, h13, l13⟩ := t13
  obtain ⟨q13, r13⟩ := r13
  cases def_tab X G F13 m13 h13
  have C13 := tab_of T X r13 h13
  obtain ⟨e9, P9, h9, l9⟩ := t9
  obtain ⟨q9, r9⟩ := r9
  cases def_tab X G F9 m9 h9
  have C9 := tab_of T X r9 h9
  cases hfa.symm.trans m40
  refine ⟨fd40, [(c11, P11), (c10, P10), (c14, P14), (c13, P13), (c9, P9)], QLaw K [P11, P10, P14, P13, P9], ?_, ?_, ?_, ?_, ?_, fun base KB NB TB => ?_⟩
  · intro p hp; simp only [List.mem_cons, List.not_mem_nil, or_false] at hp; rcases hp with rfl | rfl | rfl | rfl | rfl <;> first | exact C11.2 | exact C10.2 | exact C14.2 | exact C13.2 | exact C9.2
  · intro p hp; simp only [List.mem_cons, List.not_mem_nil, or_false] at hp; rcases hp with rfl | rfl | rfl | rfl | rfl <;> first | exact l11 | exact l10 | exact l14 | exact l13 | exact l9
  · intro p hp; simp only [List.mem_cons, List.not_mem_nil, or_false] at hp; rcases hp with rfl | rfl | rfl | rfl | rfl <;> first | exact C11.1 | exact C10.1 | exact C14.1 | exact C13.1 | exact C9.1
  · intro s u; obtain ⟨oc, od, kV, doc, pm, an, ct, osl, rfl, lk, hcd⟩ := F40.ex; exact .of_eq rfl
  · intro H a ns hn _ hT hS
    refine ⟨a, ns, rfl, hS, hn, fun P hP => ?_, fun _ => rfl⟩
    simp only [List.mem_cons, List.not_mem_nil, or_false] at hP
    rcases hP with e | e | e | e | e
    · rw [e]; exact hT (c11, P11) (by simp)
    · rw [e]; exact hT (c10, P10) (by simp)
    · rw [e]; exact hT (c14, P14) (by simp)
    · rw [e]; exact hT (c13, P13) (by simp)
    · rw [e]; exact hT (c9, P9) (by simp)
  have B11 : TabB base mg c11 P11 := TB (c11, P11) (by simp)
  have B10 : TabB base mg c10 P10 := TB (c10, P10) (by simp)
  have B14 : TabB base mg c14 P14 := TB (c14, P14) (by simp)
  have B13 : TabB base mg c13 P13 := TB (c13, P13) (by simp)
  have B9 : TabB base mg c9 P9 := TB (c9, P9) (by simp)
  have K38 : Cal l.prog w K mg base [P11, P10, P14, P13, P9] 1 "_law_like" ["got", "due"] dLike := ⟨f38, fd38, like_of (ok_like F38 B), F38.kp, b38, m38⟩
  have K7 : Cal l.prog w K mg base [P11, P10, P14, P13, P9] 1 "is_integer" ["value", "least", "most"] d_is_integer := ⟨f7, fd7, ok_is_integer F7 B , F7.kp, b7, m7⟩
  have K8 : Cal l.prog w K mg base [P11, P10, P14, P13, P9] 2 "is_lot" ["count", "value"] d_is_lot := ⟨f8, fd8, ok_is_lot F8 B K7, F8.kp, b8, m8⟩
  have K21 : Cal l.prog w K mg base [P11, P10, P14, P13, P9] 3 "_need_arrows" ["count", "arrows"] d_uneed_arrows := ⟨f21, fd21, ok_uneed_arrows F21 B K8, F21.kp, b21, m21⟩
  have K22 : Cal l.prog w K mg base [P11, P10, P14, P13, P9] 3 "_need_causes" ["count", "causes"] d_uneed_causes := ⟨f22, fd22, ok_uneed_causes F22 B K8 cMOST_CAUSES, F22.kp, b22, m22⟩
  have K6 : Cal l.prog w K mg base [P11, P10, P14, P13, P9] 1 "is_tuple_of" ["value", "many"] d_is_tuple_of := ⟨f6, fd6, ok_is_tuple_of F6 B , F6.kp, b6, m6⟩
  have K20 : Cal l.prog w K mg base [P11, P10, P14, P13, P9] 4 "need_drawing" ["drawing"] d_need_drawing := ⟨f20, fd20, ok_need_drawing F20 B K6 K7 K21 K22 c_MOST_THINGS, F20.kp, b20, m20⟩
  have K11 : Cal l.prog w K mg base [P11, P10, P14, P13, P9] 1 "meets" ["lot", "other"] d_meets := ⟨f11, fd11, ok_meets F11 B B11 (by simp), F11.kp, b11, m11⟩
  have K10 : Cal l.prog w K mg base [P11, P10, P14, P13, P9] 1 "lies_in" ["lot", "other"] d_lies_in := ⟨f10, fd10, ok_lies_in F10 B B10 (by simp), F10.kp, b10, m10⟩
  have K24 : Cal l.prog w K mg base [P11, P10, P14, P13, P9] 5 "need_question" ["question"] d_need_question := ⟨f24, fd24, ok_need_question F24 B K6 K20 K8 K10 K11, F24.kp, b24, m24⟩
  have K15 : Cal l.prog w K mg base [P11, P10, P14, P13, P9] 1 "leading_in" ["arrows", "lot", "goal"] d_leading_in := ⟨f15, fd15, ok_leading_in F15 B , F15.kp, b15, m15⟩
  have K14 : Cal l.prog w K mg base [P11, P10, P14, P13, P9] 1 "all_without" ["count", "lot"] d_all_without := ⟨f14, fd14, ok_all_without F14 B B14 (by simp), F14.kp, b14, m14⟩
  have K16 : Cal l.prog w K mg base [P11, P10, P14, P13, P9] 2 "goal_in" ["drawing", "closed", "ends"] d_goal_in := ⟨f16, fd16, ok_goal_in F16 B K15 K14, F16.kp, b16, m16⟩
  have K12 : Cal l.prog w K mg base [P11, P10, P14, P13, P9] 1 "together" ["lot", "other"] d_together := ⟨f12, fd12, ok_together F12 B , F12.kp, b12, m12⟩
  have K13 : Cal l.prog w K mg base [P11, P10, P14, P13, P9] 1 "lot_without" ["lot", "other"] d_lot_without := ⟨f13, fd13, ok_lot_without F13 B B13 (by simp), F13.kp, b13, m13⟩
  have K28 : Cal l.prog w K mg base [P11, P10, P14, P13, P9] 3 "goal_behind" ["question", "moved"] d_goal_behind := ⟨f28, fd28, ok_goal_behind F28 B K16 K12 K13, F28.kp, b28, m28⟩
  have K9 : Cal l.prog w K mg base [P11, P10, P14, P13, P9] 1 "is_row_of" ["lot", "value"] d_is_row_of := ⟨f9, fd9, ok_is_row_of F9 B B9 (by simp), F9.kp, b9, m9⟩
  have K27 : Cal l.prog w K mg base [P11, P10, P14, P13, P9] 6 "goal" ["question", "moved"] d_goal := ⟨f27, fd27, ok_goal F27 B K24 K9 K28, F27.kp, b27, m27⟩
  have K35 : Cal l.prog w K mg base [P11, P10, P14, P13, P9] 10 "_law_comes" ["arrows_so", "outside", "spot", "targets"] (d_w_comes 9) := ⟨f35, fd35, ok_w_comes F35 B F35.kp b35 m35  9, F35.kp, b35, m35⟩
  have K36 : Cal l.prog w K mg base [P11, P10, P14, P13, P9] 11 "_law_due" ["asked_so", "told"] d_w_due := ⟨f36, fd36, ok_w_due F36 B K35, F36.kp, b36, m36⟩
  have K37 : Cal l.prog w K mg base [P11, P10, P14, P13, P9] 1 "_law_moves" ["seen_so"] d_w_moves := ⟨f37, fd37, ok_w_moves F37 B , F37.kp, b37, m37⟩
  have K26 : Cal l.prog w K mg base [P11, P10, P14, P13, P9] 2 "things_in" ["question"] d_things_in := ⟨f26, fd26, ok_things_in F26 B K12, F26.kp, b26, m26⟩
  have K25 : Cal l.prog w K mg base [P11, P10, P14, P13, P9] 6 "things_of" ["question"] d_things_of := ⟨f25, fd25, ok_things_of F25 B K24 K26, F25.kp, b25, m25⟩
  have K39 : Cal l.prog w K mg base [P11, P10, P14, P13, P9] 12 "_law_right" ["asked_so"] d_w_right := ⟨f39, fd39, ok_w_right F39 B K38 K25 K36 K37 K27, F39.kp, b39, m39⟩
  have K32 : Cal l.prog w K mg base [P11, P10, P14, P13, P9] 2 "_law_draw" ["state", "limit"] dDraw := ⟨f32, fd32, draw_of (ok_draw F32 B F30 b30 m30), F32.kp, b32, m32⟩
  have K34 : Cal l.prog w K mg base [P11, P10, P14, P13, P9] 3 "_law_question" ["state", "draw_so"] d_w_question := ⟨f34, fd34, ok_w_question F34 B K32, F34.kp, b34, m34⟩
  have K33 : Cal l.prog w K mg base [P11, P10, P14, P13, P9] 3 "_law_drawing" ["state", "low", "high"] d_w_drawing := ⟨f33, fd33, ok_w_drawing F33 B K32, F33.kp, b33, m33⟩
  exact ok_law F40 B (ok_begin F31 B) F31.kp b31 m31 K39 K34 K33 K27 K38 wp_law
end L24
set_option Elab.async false
open PySem PySem.W PyProof.Rows
set_option maxRecDepth 100000 in
set_option maxHeartbeats 0 in
theorem PySem.Challenge.cw_deedseen_k24_whole_things_and_goals_holds : PySem.Challenge.rw_deedseen_k24_whole_things_and_goals.Holds := by
  w_on; o_law; k_head; (case hw => w_witness2)
  k_fill
  refine G9.walk_G (l := PySem.Challenge.rw_deedseen_k24_whole_things_and_goals) (n := 63) (k := 13) (x := "script") rfl (by decide) rfl ⟨rfl, by decide, by decide⟩ (fun w h Y => PySem.W.kIn_of Y) ?F
  case F =>
    intro w mean mg mb fa h KX T hmg
    refine' L24.law_G KX T hmg ?d31 ?d38 ?d7 ?d8 ?d21 ?d22 ?d6 ?d20 ?d11 ?d10 ?d24 ?d15 ?d14 ?d16 ?d12 ?d13 ?d28 ?d9 ?d27 ?d35 ?d36 ?d37 ?d26 ?d25 ?d39 ?d30 ?d32 ?d34 ?d33 ?d40 ?t11 ?t10 ?t14 ?t13 ?t9 ?r11 ?r10 ?r14 ?r13 ?r9 ?n0 ?n1 ?z0 ?z1 ?z2 ?z3 ?z4 ?z5 ?z6 ?z7 ?z8 ?z9 ?z10 ?z11 ?z12 ?z13 ?z14 ?z15 ?z16 ?z17 ?z18 ?z19 ?z20 ?z21
    case d31 => refine' PL.def_mk ?a ?l ?c ?k; (case a => k_is); (case l => k_is); (case c => k_is); (case k => k_is)
    case d38 => refine' PL.def_mk ?a ?l ?c ?k; (case a => k_is); (case l => k_is); (case c => k_is); (case k => k_is)
    case d7 => refine' PL.def_mk ?a ?l ?c ?k; (case a => k_is); (case l => k_is); (case c => k_is); (case k => k_is)
    case d8 => refine' PL.def_mk ?a ?l ?c ?k; (case a => k_is); (case l => k_is); (case c => k_is); (case k => k_is)
    case d21 => refine' PL.def_mk ?a ?l ?c ?k; (case a => k_is); (case l => k_is); (case c => k_is); (case k => k_is)
    case d22 => refine' PL.def_mk ?a ?l ?c ?k; (case a => k_is); (case l => k_is); (case c => k_is); (case k => k_is)
    case d6 => refine' PL.def_mk ?a ?l ?c ?k; (case a => k_is); (case l => k_is); (case c => k_is); (case k => k_is)
    case d20 => refine' PL.def_mk ?a ?l ?c ?k; (case a => k_is); (case l => k_is); (case c => k_is); (case k => k_is)
    case d11 => refine' PL.def_mk ?a ?l ?c ?k; (case a => k_is); (case l => k_is); (case c => k_is); (case k => k_is)
    case d10 => refine' PL.def_mk ?a ?l ?c ?k; (case a => k_is); (case l => k_is); (case c => k_is); (case k => k_is)
    case d24 => refine' PL.def_mk ?a ?l ?c ?k; (case a => k_is); (case l => k_is); (case c => k_is); (case k => k_is)
    case d15 => refine' PL.def_mk ?a ?l ?c ?k; (case a => k_is); (case l => k_is); (case c => k_is); (case k => k_is)
    case d14 => refine' PL.def_mk ?a ?l ?c ?k; (case a => k_is); (case l => k_is); (case c => k_is); (case k => k_is)
    case d16 => refine' PL.def_mk ?a ?l ?c ?k; (case a => k_is); (case l => k_is); (case c => k_is); (case k => k_is)
    case d12 => refine' PL.def_mk ?a ?l ?c ?k; (case a => k_is); (case l => k_is); (case c => k_is); (case k => k_is)
    case d13 => refine' PL.def_mk ?a ?l ?c ?k; (case a => k_is); (case l => k_is); (case c => k_is); (case k => k_is)
    case d28 => refine' PL.def_mk ?a ?l ?c ?k; (case a => k_is); (case l => k_is); (case c => k_is); (case k => k_is)
    case d9 => refine' PL.def_mk ?a ?l ?c ?k; (case a => k_is); (case l => k_is); (case c => k_is); (case k => k_is)
    case d27 => refine' PL.def_mk ?a ?l ?c ?k; (case a => k_is); (case l => k_is); (case c => k_is); (case k => k_is)
    case d35 => refine' PL.def_mk ?a ?l ?c ?k; (case a => k_is); (case l => k_is); (case c => k_is); (case k => k_is)
    case d36 => refine' PL.def_mk ?a ?l ?c ?k; (case a => k_is); (case l => k_is); (case c => k_is); (case k => k_is)
    case d37 => refine' PL.def_mk ?a ?l ?c ?k; (case a => k_is); (case l => k_is); (case c => k_is); (case k => k_is)
    case d26 => refine' PL.def_mk ?a ?l ?c ?k; (case a => k_is); (case l => k_is); (case c => k_is); (case k => k_is)
    case d25 => refine' PL.def_mk ?a ?l ?c ?k; (case a => k_is); (case l => k_is); (case c => k_is); (case k => k_is)
    case d39 => refine' PL.def_mk ?a ?l ?c ?k; (case a => k_is); (case l => k_is); (case c => k_is); (case k => k_is)
    case d30 => refine' PL.def_mk ?a ?l ?c ?k; (case a => k_is); (case l => k_is); (case c => k_is); (case k => k_is)
    case d32 => refine' PL.def_mk ?a ?l ?c ?k; (case a => k_is); (case l => k_is); (case c => k_is); (case k => k_is)
    case d34 => refine' PL.def_mk ?a ?l ?c ?k; (case a => k_is); (case l => k_is); (case c => k_is); (case k => k_is)
    case d33 => refine' PL.def_mk ?a ?l ?c ?k; (case a => k_is); (case l => k_is); (case c => k_is); (case k => k_is)
    case d40 => refine' PL.def_mk ?a ?l ?c ?k; (case a => k_is); (case l => k_is); (case c => k_is); (case k => k_is)
    case t11 => exact PL.tab_mk (by kernel_rfl)
    case t10 => exact PL.tab_mk (by kernel_rfl)
    case t14 => exact PL.tab_mk (by kernel_rfl)
    case t13 => exact PL.tab_mk (by kernel_rfl)
    case t9 => exact PL.tab_mk (by kernel_rfl)
    case r11 => exact ⟨_, rfl⟩
    case r10 => exact ⟨_, rfl⟩
    case r14 => exact ⟨_, rfl⟩
    case r13 => exact ⟨_, rfl⟩
    case r9 => exact ⟨_, rfl⟩
    case n0 => k_is
    case n1 => k_is
    case z0 => unfold PL.NoneAt; k_is
    case z1 => unfold PL.NoneAt; k_is
    case z2 => unfold PL.NoneAt; k_is
    case z3 => unfold PL.NoneAt; k_is
    case z4 => unfold PL.NoneAt; k_is
    case z5 => unfold PL.NoneAt; k_is
    case z6 => unfold PL.NoneAt; k_is
    case z7 => unfold PL.NoneAt; k_is
    case z8 => unfold PL.NoneAt; k_is
    case z9 => unfold PL.NoneAt; k_is
    case z10 => unfold PL.NoneAt; k_is
    case z11 => unfold PL.NoneAt; k_is
    case z12 => unfold PL.NoneAt; k_is
    case z13 => unfold PL.NoneAt; k_is
    case z14 => unfold PL.NoneAt; k_is
    case z15 => unfold PL.NoneAt; k_is
    case z16 => unfold PL.NoneAt; k_is
    case z17 => unfold PL.NoneAt; k_is
    case z18 => unfold PL.NoneAt; k_is
    case z19 => unfold PL.NoneAt; k_is
    case z20 => unfold PL.NoneAt; k_is
    case z21 => unfold PL.NoneAt; k_is
