import PyProof.Rows.All
import Wide.All
import OpenK.AllK
import Wide.FinOn
import HandS.Base
import HandS.Call
import HandS.List
import HandS.Comp
import HandS.AnyAll
import HandS.ForMost
import PyProof.TupleOfGen
import PyProof.GenCompT
import PyProof.WalksPairs
import PyProof.WalksEnum
import PyProof.Draws
import KE.GoesEnum
import PyProof.ReprRoads
import HandS.TupSets
import KE.SortData
import HandS.Wide
import HandS.EndTab
import PyProof.ReprLen
import KE.KNest
import KE.KNestM
import HandS.Strs
import HandS.SetFor
import HandS.Rev
import HandS.TupLe
import HandS.More
import HandS.Deep
import HandS.TupAny
import PySem.Challenge.RW_deedseen_k03_whole_goals
set_option Elab.async false
set_option linter.all false
set_option maxRecDepth 100000
set_option maxHeartbeats 2000000
namespace G9
open PySem PySem.Spec PyProof.Rows L2 GxR

/-! ### a generator's frame -/
structure Gf (X : Cx) (scope : Scope) (cenv : Env) : Prop where
  sc : cenv.scope = scope
  kind : scope.kind = .function
  glob : cenv.globals = X.env.globals
  blt : cenv.builtins = builtinsNs
  cells : ∀ y c, scope.names.lookup y = some .free → X.env.cells.lookup y = some c → cenv.cells.lookup y = some c

/-- what stood at the making still stands -/
def Kp (P : Addr) (g h : Heap) : Prop := ∀ b o, b ≠ P → g.get? b = some o → h.get? b = some o
theorem Kp.more {P : Addr} {g h h' : Heap} (a : Kp P g h) (k : ∀ b o, h.get? b = some o → h'.get? b = some o) : Kp P g h' := fun b o n e => k b o (a b o n e)

theorem Keeps.trans {s s1 s2 : Shared} (a : Keeps s s1) (b : Keeps s1 s2) : Keeps s s2 := by
  obtain ⟨h1, t1, rfl, k1⟩ := a
  obtain ⟨h2, t2, rfl, k2⟩ := b
  exact ⟨h2, t2, rfl, fun b o e => k2 b o (k1 b o e)⟩
theorem Keeps.ns {s s1 : Shared} (a : Keeps s s1) {L : Addr} {m : Str → Option Value} (h : s.heap.Ns L m) : s1.heap.Ns L m := by
  obtain ⟨h1, t1, rfl, k1⟩ := a
  exact h.keeps k1
theorem Keeps.kp {s s1 : Shared} (a : Keeps s s1) {P : Addr} {g : Heap} (h : Kp P g s.heap) : Kp P g s1.heap := by
  obtain ⟨h1, t1, rfl, k1⟩ := a
  exact h.more k1

def QE (X : Cx) (P : Addr) (g : Heap) (scope : Scope) (xs : List (Str × Value)) (e : Expr) (R : Value → Prop) : Prop :=
  ∀ (cenv : Env) (A' : Around) (E' : Value → Shared → Prop) (s : Shared) (m : Str → Option Value),
    Gf X scope cenv → s.heap.Ns cenv.locals m → (∀ p ∈ xs, m p.1 = some p.2) → Kp P g s.heap →
    wpAny (model X.prog X.w) A' (eval e cenv) (fun y s3 => R y ∧ Keeps s s3) E' s
def QB (X : Cx) (P : Addr) (g : Heap) (scope : Scope) (xs : List (Str × Value)) (e : Expr) (k : Bool) : Prop :=
  ∀ (cenv : Env) (A' : Around) (E' : Value → Shared → Prop) (s : Shared) (m : Str → Option Value),
    Gf X scope cenv → s.heap.Ns cenv.locals m → (∀ p ∈ xs, m p.1 = some p.2) → Kp P g s.heap →
    wpAny (model X.prog X.w) A' (isTrue e cenv (eval e cenv)) (fun b s3 => b = k ∧ Keeps s s3) E' s
def QW (X : Cx) (P : Addr) (g : Heap) (scope : Scope) (xs : List (Str × Value)) (e : Expr) (k : Bool) : Prop :=
  ∀ (whole : Sem Value) (cenv : Env) (A' : Around) (E' : Value → Shared → Prop) (s : Shared) (m : Str → Option Value),
    Gf X scope cenv → s.heap.Ns cenv.locals m → (∀ p ∈ xs, m p.1 = some p.2) → Kp P g s.heap →
    wpAny (model X.prog X.w) A' (isTrue e cenv whole) (fun b s3 => b = k ∧ Keeps s s3) E' s
def QTs (X : Cx) (P : Addr) (g : Heap) (scope : Scope) (xs : List (Str × Value)) (es : List Expr) (k : Bool) : Prop :=
  ∀ (cenv : Env) (A' : Around) (E' : Value → Shared → Prop) (s : Shared) (m : Str → Option Value),
    Gf X scope cenv → s.heap.Ns cenv.locals m → (∀ p ∈ xs, m p.1 = some p.2) → Kp P g s.heap →
    wpAny (model X.prog X.w) A' (forIn es true fun c r => if r = true then do let ok ← isTrue c cenv (eval c cenv); pure (ForInStep.yield ok) else pure (ForInStep.yield r)) (fun b s3 => b = k ∧ Keeps s s3) E' s

/-- readings of a generator's expressions: the walked values, the def's slots, the heap; what comes out -/
abbrev GV := List V → L2.St → Hp → V → Prop
abbrev GB := List V → L2.St → Hp → Bool → Prop
structure GE (X : Cx) (P : Addr) (scope : Scope) (ns : List Str) (e : Expr) (t : GV) : Prop where
  run : ∀ pins σ H s, Inv X pins σ H s → TabG H P → ∀ vs us v, Vals vs us → vs.length = ns.length → t vs σ H v → QE X P s.heap scope (ns.zip us) e (RelV v)
structure GT (X : Cx) (P : Addr) (scope : Scope) (ns : List Str) (e : Expr) (t : GB) : Prop where
  run : ∀ pins σ H s, Inv X pins σ H s → TabG H P → ∀ vs us k, Vals vs us → vs.length = ns.length → t vs σ H k → QB X P s.heap scope (ns.zip us) e k
structure GW (X : Cx) (P : Addr) (scope : Scope) (ns : List Str) (e : Expr) (t : GB) : Prop where
  run : ∀ pins σ H s, Inv X pins σ H s → TabG H P → ∀ vs us k, Vals vs us → vs.length = ns.length → t vs σ H k → QW X P s.heap scope (ns.zip us) e k
structure GTs (X : Cx) (P : Addr) (scope : Scope) (ns : List Str) (es : List Expr) (t : GB) : Prop where
  run : ∀ pins σ H s, Inv X pins σ H s → TabG H P → ∀ vs us k, Vals vs us → vs.length = ns.length → t vs σ H k → QTs X P s.heap scope (ns.zip us) es k
section
variable {X : Cx} {P : Addr} {scope : Scope} {ns : List Str} {a b : Expr} {pos : Pos}
theorem GW.gt {e : Expr} {t : GB} (h : GW X P scope ns e t) : GT X P scope ns e t := ⟨fun pins σ H s I T vs us k r l q cenv A' E' s' m f n hm kp => h.run pins σ H s I T vs us k r l q _ cenv A' E' s' m f n hm kp⟩

theorem zip_get {α β : Type} : ∀ {xs : List α} {ys : List β} {j : Nat} {x : α} {y : β}, xs[j]? = some x → ys[j]? = some y → (x, y) ∈ xs.zip ys
  | _ :: _, _ :: _, 0, _, _, h1, h2 => by
    simp only [List.getElem?_cons_zero, Option.some.injEq] at h1 h2
    subst h1 h2
    exact List.mem_cons_self
  | _ :: xs, _ :: ys, j + 1, x, y, h1, h2 => List.mem_cons_of_mem _ (zip_get (j := j) (by simpa using h1) (by simpa using h2))
/-- a walked name -/
theorem ge_loc (j : Nat) {y : Str} (hn : ns[j]? = some y) (hl : scope.names.lookup y = some .local) (hd : (y == ("__debug__" : Str)) = false := by decide) : GE X P scope ns (.Name y pos) (fun vs _ _ v => vs[j]? = some v) := by
  refine ⟨fun pins σ H s I T vs us v r l q cenv A' E' s' m f n hm kp => ?_⟩
  obtain ⟨u, hu, rv⟩ := Vals.get r q
  refine wpAny_Name (wpAny_loadName_local (by rw [f.sc]; exact f.kind) (show cenv.scope.names.lookup y = some .local by rw [f.sc]; exact hl) n (hm _ (zip_get hn hu)) ?_) hd
  exact ⟨rv, keeps_refl _⟩
/-- a name of the def -/
theorem ge_free (i : Nat) {y : Str} (hN : X.N[i]? = some y) (hl : scope.names.lookup y = some .free) (hv : X.env.scope.names.lookup y = some .cell) (hd : (y == ("__debug__" : Str)) = false := by decide) (hcd : (y == ("__classdict__" : Str)) = false := by decide) : GE X P scope ns (.Name y pos) (fun _ σ _ v => σ[i]? = some (some v)) := by
  refine ⟨fun pins σ H s I T vs us v r l q cenv A' E' s' m f n hm kp => ?_⟩
  obtain ⟨m0, hn0, hl0⟩ := I.loc
  obtain ⟨u, ru, lk⟩ := hl0 i y v hN q (.inr (.inl hv))
  have hk : X.env.kindOf y = some .cell := hv
  rcases lk with ⟨hk1, _⟩ | ⟨_, c, hc, hcell⟩
  · rw [hk] at hk1
    cases hk1
  · have ncP : c ≠ P := fun z => by
      obtain ⟨ps, hP, _⟩ := T
      have h1 := I.freeC y c hc
      rw [z, hP] at h1
      cases h1
    have hcell' : s'.heap.IsCell c (some u) := by
      obtain ⟨o, ho, r⟩ := hcell
      exact ⟨o, kp c o ncP ho, r⟩
    exact wpAny_Name (wpAny_loadName_free (by rw [f.sc]; exact f.kind) (show cenv.scope.names.lookup y = some .free by rw [f.sc]; exact hl) (f.cells y c hl hc) hcell' ⟨ru, keeps_refl _⟩ hcd) hd
theorem ge_int {i : Int} {j : Nat} : GE X P scope ns (.Constant (.int i) j pos) (fun _ _ _ v => v = .int i) := by
  refine ⟨fun pins σ H s I T vs us v r l q cenv A' E' s' m f n hm kp => ?_⟩
  subst q
  exact wpAny_Constant_int ⟨⟨_, rfl⟩, keeps_tok _ _⟩

theorem tup_ne {pins σ H} {s : Shared} {p : Addr} {its : Array Value} (I : Inv X pins σ H s) (T : TabG H P) (h : ∃ o, s.heap.get? p = some o ∧ o.cls ≠ .none) : p ≠ P := fun z => by
  obtain ⟨o, ho, hc⟩ := h
  obtain ⟨ps, hP, _⟩ := T
  have e : s.heap.get? P = some { cls := .none, data := .fields ps } := I.hok P _ hP
  rw [z, e] at ho
  cases ho
  exact hc rfl

/-- x in xs -/
def gIn (neg : Bool) (K : PySem.W.Frag) (ta tb : GV) : GB := fun vs σ H k => ∃ x p ys, ta vs σ H x ∧ tb vs σ H (.ref p) ∧ (SqL K H p ys ∨ SqT K H p ys) ∧ flatV x = true ∧ ys.all flatV = true ∧ k = (if neg then !inV x ys else inV x ys)
theorem in_core {ta tb : GV} (ha : GE X P scope ns a ta) (hb : GE X P scope ns b tb) (neg : Bool) {pins σ H s} (I : Inv X pins σ H s) (T : TabG H P) {vs us k} (r : Vals vs us) (l : vs.length = ns.length) (q : gIn neg X.K ta tb vs σ H k)
    {cenv : Env} {A' : Around} {E' : Value → Shared → Prop} {s' : Shared} {m : Str → Option Value} (f : Gf X scope cenv) (n : s'.heap.Ns cenv.locals m) (hm : ∀ p ∈ ns.zip us, m p.1 = some p.2) (kp : Kp P s.heap s'.heap) {Q : Value → Shared → Prop}
    (hQ : ∀ s3, Keeps s' s3 → Q (.bool k) s3) :
    wpAny (model X.prog X.w) A' (eval a cenv) (fun v s₁ => wpAny (model X.prog X.w) A' (eval b cenv) (fun u s₂ => wpAny (model X.prog X.w) A' (compareOp (if neg then .NotIn else .In) v u) Q E' s₂) E' s₁) E' s' := by
  obtain ⟨x, p, ys, qa, qb, hq, fx, fs, rfl⟩ := q
  refine wpAny_mono (ha.run pins σ H s I T vs us x r l qa cenv A' E' s' m f n hm kp) (fun v s1 ⟨rx, k1⟩ => ?_) fun _ _ e => e
  refine wpAny_mono (hb.run pins σ H s I T vs us _ r l qb cenv A' E' s1 m f (Keeps.ns k1 n) hm (Keeps.kp k1 kp)) (fun u s2 ⟨ry, k2⟩ => ?_) fun _ _ e => e
  cases ry
  have kk := Keeps.kp k2 (Keeps.kp k1 kp)
  rcases hq with hq | hq
  · obtain ⟨its, r', pl, hz⟩ := I.list hq
    have hl : s2.heap.IsList p its.toArray := by
      obtain ⟨o, ho, hc, rest⟩ := pl.isList
      exact ⟨o, kk p o (tup_ne (its := #[]) I T ⟨o, ho, by rw [hc]; simp⟩) ho, hc, rest⟩
    cases neg with
    | false =>
      refine SeqAt.in_listAt (eqU x) hl (fun w hw => mem_eqAt rx fx r' fs w (by simpa using hw)) ?_
      rw [show its.toArray.any (eqU x) = its.any (eqU x) by simp, any_eqU r' fs]
      exact hQ _ (Keeps.trans k1 k2)
    | true =>
      refine SeqAt.notIn_listAt (eqU x) hl (fun w hw => mem_eqAt rx fx r' fs w (by simpa using hw)) ?_
      rw [show its.toArray.any (eqU x) = its.any (eqU x) by simp, any_eqU r' fs]
      exact hQ _ (Keeps.trans k1 k2)
  · obtain ⟨its, r', pl, hz⟩ := I.tuple hq
    have hl : IsTup s2.heap p its.toArray := by
      obtain ⟨o, ho, hc, rest⟩ := pl
      exact ⟨o, kk p o (tup_ne (its := #[]) I T ⟨o, ho, by rw [hc]; simp⟩) ho, hc, rest⟩
    cases neg with
    | false =>
      refine SeqAt.in_tupleAt (eqU x) hl (fun w hw => mem_eqAt rx fx r' fs w (by simpa using hw)) ?_
      rw [show its.toArray.any (eqU x) = its.any (eqU x) by simp, any_eqU r' fs]
      exact hQ _ (Keeps.trans k1 k2)
    | true =>
      refine SeqAt.notIn_tupleAt (eqU x) hl (fun w hw => mem_eqAt rx fx r' fs w (by simpa using hw)) ?_
      rw [show its.toArray.any (eqU x) = its.any (eqU x) by simp, any_eqU r' fs]
      exact hQ _ (Keeps.trans k1 k2)
theorem gt_in {ta tb : GV} (ha : GE X P scope ns a ta) (hb : GE X P scope ns b tb) (h1 : behindInMarks .In b = false := by rfl) : GT X P scope ns (.Compare a [.In] [b] pos) (gIn false X.K ta tb) :=
  ⟨fun pins σ H s I T vs us k r l q cenv A' E' s' m f n hm kp => wpAny_isTrue_Compare1 (in_core ha hb false I T r l q f n hm kp fun s3 k3 => wpAny_truthy_bool ⟨rfl, k3⟩) h1⟩
theorem gt_notIn {ta tb : GV} (ha : GE X P scope ns a ta) (hb : GE X P scope ns b tb) (h1 : behindInMarks .NotIn b = false := by rfl) : GT X P scope ns (.Compare a [.NotIn] [b] pos) (gIn true X.K ta tb) :=
  ⟨fun pins σ H s I T vs us k r l q cenv A' E' s' m f n hm kp => wpAny_isTrue_Compare1 (in_core ha hb true I T r l q f n hm kp fun s3 k3 => wpAny_truthy_bool ⟨rfl, k3⟩) h1⟩
/-- .. as a value -/
def gBl (t : GB) : GV := fun vs σ H v => ∃ k, t vs σ H k ∧ v = .bl k
theorem ge_in {ta tb : GV} (ha : GE X P scope ns a ta) (hb : GE X P scope ns b tb) (h1 : behindInMarks .In b = false := by rfl) : GE X P scope ns (.Compare a [.In] [b] pos) (gBl (gIn false X.K ta tb)) :=
  ⟨fun pins σ H s I T vs us v r l q cenv A' E' s' m f n hm kp => by
    obtain ⟨k, q, rfl⟩ := q
    exact wpAny_Compare1 (in_core ha hb false I T r l q f n hm kp fun s3 k3 => ⟨rfl, k3⟩) h1⟩
theorem ge_notIn {ta tb : GV} (ha : GE X P scope ns a ta) (hb : GE X P scope ns b tb) (h1 : behindInMarks .NotIn b = false := by rfl) : GE X P scope ns (.Compare a [.NotIn] [b] pos) (gBl (gIn true X.K ta tb)) :=
  ⟨fun pins σ H s I T vs us v r l q cenv A' E' s' m f n hm kp => by
    obtain ⟨k, q, rfl⟩ := q
    exact wpAny_Compare1 (in_core ha hb true I T r l q f n hm kp fun s3 k3 => ⟨rfl, k3⟩) h1⟩
/-- two ints, == -/
def gEqI (ta tb : GV) : GB := fun vs σ H k => ∃ i j : Int, ta vs σ H (.int i) ∧ tb vs σ H (.int j) ∧ k = decide (i = j)
theorem gt_eq {ta tb : GV} (ha : GE X P scope ns a ta) (hb : GE X P scope ns b tb) (h1 : behindInMarks .Eq b = false := by rfl) : GT X P scope ns (.Compare a [.Eq] [b] pos) (gEqI ta tb) := by
  refine ⟨fun pins σ H s I T vs us k r l q cenv A' E' s' m f n hm kp => ?_⟩
  obtain ⟨i, j, qa, qb, rfl⟩ := q
  refine wpAny_isTrue_Compare1 (wpAny_mono (ha.run pins σ H s I T vs us _ r l qa cenv A' E' s' m f n hm kp) (fun v s1 ⟨rx, k1⟩ => ?_) fun _ _ e => e) h1
  refine wpAny_mono (hb.run pins σ H s I T vs us _ r l qb cenv A' E' s1 m f (Keeps.ns k1 n) hm (Keeps.kp k1 kp)) (fun u s2 ⟨ry, k2⟩ => ?_) fun _ _ e => e
  obtain ⟨t, rfl⟩ := rx
  obtain ⟨t', rfl⟩ := ry
  refine eq_int (wpAny_truthy_bool ⟨?_, Keeps.trans k1 k2⟩)
  by_cases e : i = j
  · simp [e]
  · simp [e]
/-- a and b -/
def gAnd (t u : GB) : GB := fun vs σ H k => ∃ c, t vs σ H c ∧ if c = true then u vs σ H k else k = false
theorem gw_and1 {t : GB} (ha : GT X P scope ns a t) : GW X P scope ns (.BoolOp .And [a] pos) t := by
  refine ⟨fun pins σ H s I T vs us k r l q wh cenv A' E' s' m f n hm kp => ?_⟩
  refine isTrue_and (wpAny_mono (ha.run pins σ H s I T vs us k r l q cenv A' E' s' m f n hm kp) (fun c s1 e => ?_) fun _ _ e => e)
  cases c with
  | true => exact isTrue_and_nil e
  | false => exact e
theorem gw_and {rest : List Expr} {t u : GB} (ha : GT X P scope ns a t) (hb : GW X P scope ns (.BoolOp .And (b :: rest) pos) u) : GW X P scope ns (.BoolOp .And (a :: b :: rest) pos) (gAnd t u) := by
  refine ⟨fun pins σ H s I T vs us k r l q wh cenv A' E' s' m f n hm kp => ?_⟩
  obtain ⟨c, q1, q2⟩ := q
  refine isTrue_and (wpAny_mono (ha.run pins σ H s I T vs us c r l q1 cenv A' E' s' m f n hm kp) (fun c' s1 ⟨e, k1⟩ => ?_) fun _ _ e => e)
  subst e
  cases c' with
  | true => exact wpAny_mono (hb.run pins σ H s I T vs us k r l (by simpa using q2) wh cenv A' E' s1 m f (Keeps.ns k1 n) hm (Keeps.kp k1 kp)) (fun c s2 ⟨e2, k2⟩ => ⟨e2, Keeps.trans k1 k2⟩) fun _ _ e => e
  | false => exact ⟨by simpa using q2.symm, k1⟩
/-- .. as a value (of bools) -/
theorem ge_and1 {t : GB} (ha : GE X P scope ns a (gBl t)) : GE X P scope ns (.BoolOp .And [a] pos) (gBl t) :=
  ⟨fun pins σ H s I T vs us v r l q cenv A' E' s' m f n hm kp => BoolOp_one (ha.run pins σ H s I T vs us v r l q cenv A' E' s' m f n hm kp)⟩
theorem ge_and {rest : List Expr} {t u : GB} (ha : GE X P scope ns a (gBl t)) (hb : GE X P scope ns (.BoolOp .And (b :: rest) pos) (gBl u)) : GE X P scope ns (.BoolOp .And (a :: b :: rest) pos) (gBl (gAnd t u)) := by
  refine ⟨fun pins σ H s I T vs us v r l q cenv A' E' s' m f n hm kp => ?_⟩
  obtain ⟨k, ⟨c, q1, q2⟩, rfl⟩ := q
  refine BoolOp_and (wpAny_mono (ha.run pins σ H s I T vs us _ r l ⟨c, q1, rfl⟩ cenv A' E' s' m f n hm kp) (fun v' s1 ⟨e, k1⟩ => ?_) fun _ _ e => e)
  cases e
  refine wpAny_truthy_bool ?_
  cases c with
  | true => exact wpAny_mono (hb.run pins σ H s I T vs us _ r l ⟨k, by simpa using q2, rfl⟩ cenv A' E' s1 m f (Keeps.ns k1 n) hm (Keeps.kp k1 kp)) (fun c s2 ⟨e2, k2⟩ => ⟨e2, Keeps.trans k1 k2⟩) fun _ _ e => e
  | false => exact ⟨by rw [show k = false by simpa using q2]; rfl, k1⟩
theorem gts_nil : GTs X P scope ns [] (fun _ _ _ k => k = true) := ⟨fun pins σ H s I T vs us k r l q cenv A' E' s' m f n hm kp => by
  subst q
  simp only [List.forIn_nil]
  exact wpAny_pure ⟨rfl, keeps_refl _⟩⟩
theorem gts_one {t : GB} (ha : GT X P scope ns a t) : GTs X P scope ns [a] t := ⟨fun pins σ H s I T vs us k r l q cenv A' E' s' m f n hm kp => by
  simp only [List.forIn_cons, List.forIn_nil, if_true]
  simp only [bind_assoc, pure_bind]
  refine wpAny_bind (wpAny_mono (ha.run pins σ H s I T vs us k r l q cenv A' E' s' m f n hm kp) (fun b s1 h => ?_) fun _ _ e => e)
  exact wpAny_pure h⟩
end
end G9
set_option Elab.async false
set_option linter.all false
set_option maxRecDepth 100000
set_option maxHeartbeats 2000000
namespace G9
open PySem PySem.Spec PyProof.Rows L2 GxR

def Grew (s1 s2 : Shared) : Prop := ∃ h' tk, s2 = { s1 with heap := h', toks := tk } ∧ (∀ b o, s1.heap.get? b = some o → h'.get? b = some o) ∧ s1.heap.objs.size ≤ h'.objs.size
def WalkN (X : Cx) (n : Nat) (Pv : Nat → Value → Prop) (it : Value) (s1 s2 : Shared) : Prop :=
  ∃ Ia fp wr St, it = .ref Ia ∧ (∀ A' : Around, A'.handled = none → Walks X.prog X.w A' Ia fp wr n Pv St) ∧ St 0 s2.heap ∧ (∀ b ∈ fp, ∃ o, s2.heap.get? b = some o ∧ o.cls ≠ .none) ∧ (∀ b ∈ wr, s1.heap.objs.size ≤ b)
def WalkP (X : Cx) (n : Nat) (Pt : Nat → Array Value → Prop) (it : Value) (s1 s2 : Shared) : Prop :=
  ∃ Ia fp wr St Mid, it = .ref Ia ∧ (∀ A' : Around, A'.handled = none → WalksU X.prog X.w A' Ia fp wr n Pt St Mid) ∧ St 0 s2.heap ∧ (∀ b ∈ fp, ∃ o, s2.heap.get? b = some o ∧ o.cls ≠ .none) ∧ (∀ b ∈ wr, s1.heap.objs.size ≤ b)
/-- what a generator walks: values, or pairs -/
abbrev TS1 := L2.St → Hp → (List V → Hp → Prop) → Prop
abbrev TS2 := L2.St → Hp → (List (V × V) → Hp → Prop) → Prop
structure GS1 (X : Cx) (iter : Expr) (t : TS1) : Prop where
  run : ∀ pins s σ H R, Inv X pins σ H s → t σ H R → wpAny (model X.prog X.w) X.A (eval iter X.env) (fun xv s1 => wpAny (model X.prog X.w) X.A (pyIter xv) (fun it s2 =>
    ∃ s0 H1 vs, Inv X pins σ H1 s0 ∧ R vs H1 ∧ Grew s0 s2 ∧ WalkN X vs.length (fun i y => ∃ x, vs[i]? = some x ∧ RelV x y) it s0 s2) X.xe s1) X.xe s
structure GS2 (X : Cx) (iter : Expr) (t : TS2) : Prop where
  run : ∀ pins s σ H R, Inv X pins σ H s → t σ H R → wpAny (model X.prog X.w) X.A (eval iter X.env) (fun xv s1 => wpAny (model X.prog X.w) X.A (pyIter xv) (fun it s2 =>
    ∃ s0 H1 ps, Inv X pins σ H1 s0 ∧ R ps H1 ∧ Grew s0 s2 ∧ WalkP X ps.length (fun i vals => ∃ va vb x y, vals = #[va, vb] ∧ ps[i]? = some (x, y) ∧ RelV x va ∧ RelV y vb) it s0 s2) X.xe s1) X.xe s

theorem lookup_mem {α : Type} : ∀ {l : List (Str × α)} {n : Str} {c : α}, l.lookup n = some c → (n, c) ∈ l
  | (k, v) :: r, n, c, h => by
    rw [List.lookup_cons] at h
    cases hb : n == k with
    | true =>
      rw [hb] at h
      cases h
      rw [beq_iff_eq.mp hb]
      exact List.mem_cons_self
    | false =>
      rw [hb] at h
      exact List.mem_cons_of_mem _ (lookup_mem h)
theorem clo_lookup {cells : List (Str × Addr)} {names : List (Str × NameKind)} {y : Str} {c : Addr} (h : names.lookup y = some .free) (hc : cells.lookup y = some c) : (cloFrom cells names []).lookup y = some c := by
  have h1 := cloFrom_has (cells := cells) (acc := []) (lookup_mem h)
  obtain ⟨c', e⟩ := mem_lookup h1
  rw [e]
  rcases cloFrom_mem (lookup_mem e) with z | ⟨_, z⟩
  · cases z
  · rw [z, hc]
    rfl

/-- the generator g, ready to be walked in s5: it gives L -/
def Ready (X : Cx) (pins : List (Addr × Obj)) (σ : L2.St) (H1 : Hp) (P : Addr) (L : List V) (g : Addr) (s5 : Shared) : Prop :=
  ∃ (fp wr : List Addr) (G : Array GenState → Array GenState → Prop) (Fi : Nat → Value → Prop) (St : Nat → Shared → Prop),
    WalksS X.prog X.w X.A.in4 g fp wr G L.length Fi St ∧ St 0 s5 ∧ (∀ j y, Fi j y → ∃ x, L[j]? = some x ∧ RelV x y) ∧ (∀ i s', St i s' → s'.TypeIs (.ref g) "generator") ∧ (∀ b ∈ fp, b < s5.heap.objs.size) ∧ g ∈ fp ∧
    ∀ s', Moved wr G s5 s' → ∃ H2, Tabbed P H1 H2 ∧ Inv X pins σ H2 s'

theorem pass_len {α : Type} (as : List α) (pz : α → Bool) : (passing (fun i => (as[i]?.map pz).getD false) as.length 0).length = (as.filter pz).length := by
  have hidx := idx_map as pz
  have hpass : passing (fun i => (as[i]?.map pz).getD false) as.length 0 = (List.range as.length).filter fun i => (as[i]?.map pz).getD false := by simp [passing]
  rw [hpass]
  simpa using congrArg List.length hidx
theorem pass_at {α : Type} (as : List α) (pz : α → Bool) {j i : Nat} {b : α} (h : (passing (fun i => (as[i]?.map pz).getD false) as.length 0)[j]? = some i) (hb : as[i]? = some b) : (as.filter pz)[j]? = some b := by
  have hidx := idx_map as pz
  have hpass : passing (fun i => (as[i]?.map pz).getD false) as.length 0 = (List.range as.length).filter fun i => (as[i]?.map pz).getD false := by simp [passing]
  rw [hpass] at h
  have := congrArg (fun l => l[j]?) hidx
  simp only [List.getElem?_map, h, Option.map_some, hb] at this
  cases hq : (as.filter pz)[j]? with
  | none => rw [hq] at this; simp at this
  | some b' => rw [hq] at this; simp at this; rw [this]

/-- the generator's scope, with the names xs of its target -/
structure GenN (sc : Scope) (scope : Scope) (xs : List Str) : Prop where
  kind : scope.kind = .function
  co : scope.isCoroutine = false
  cell : ∀ y ∈ scope.names, y.2 ≠ .cell
  dot : scope.names.lookup (".0" : Str) = some NameKind.local
  loc : ∀ x ∈ xs, scope.names.lookup x = some .local
  free : ∀ y ∈ scope.names, y.2 = .free → sc.names.lookup y.1 = some .cell
section
variable {X : Cx} {pins : List (Addr × Obj)} {σ : L2.St} {H : Hp} {s : Shared}
theorem GenN.fr {xs scope} (S : GenN X.env.scope scope xs) (I : Inv X pins σ H s) : ∀ y ∈ scope.names, y.2 = .free → ∃ c, X.env.cells.lookup y.1 = some c := fun y hy hf => I.ok.has _ (.inl (S.free y hy hf))

/-- behind the source: the code object, the builtins, the generator -/
theorem gen_behind {c P : Addr} {gpos : Pos} {scope : Scope} {xs : List Str} {H1 : Hp} {s0 s2 : Shared} {wr : List Addr} {Wk : Value → Shared → Prop} {k : Nat}
    (hr : Room k X.A) (TB : TabB X.base X.mg c P) (hcode : X.env.code = .ref c) (S : GenN X.env.scope scope xs) (I1 : Inv X pins σ H1 s0) (hg : Grew s0 s2) (T : TabG H1 P)
    (hwr : ∀ b ∈ wr, s0.heap.objs.size ≤ b)
    (h : ∀ (code : Value) (h3 : Heap) (tk : Nat), Heap.ExtBut P s2.heap h3 → s2.heap.objs.size ≤ h3.objs.size → h3.NoLimit → cStatics ∉ wr → Kp P s0.heap h3 →
      (∀ h5 gs (gn : Array GenState) tk5 s', gs.bare = true → (∀ b o, h3.get? b = some o → h5.get? b = some o) → Moved (h3.objs.size :: wr) (GenOnlyQ s0.gens.size) { s2 with gens := s2.gens.push gs, toks := tk5, heap := h5 } s' → ∃ H2, Tabbed P H1 H2 ∧ Inv X pins σ H2 s') →
      Wk code { s2 with heap := h3, toks := tk }) :
    s2.heap.NoLimit ∧ wpAny (model X.prog X.w) X.A (genexprCode X.env gpos (X.env.qual ++ "<genexpr>") scope) (fun code s₃ => wpAny (model X.prog X.w) X.A (builtinsFor X.env.globals X.env.builtins) (fun bi s₄ => bi = builtinsNs ∧ Wk code s₄) X.xe s₃) X.xe s2 := by
  obtain ⟨ps, hP, ht⟩ := T
  obtain ⟨h2, tk2, rfl, k2, z2⟩ := hg
  have hPs : s0.heap.get? P = some { cls := .none, data := .fields ps } := I1.hok P _ hP
  have hPlt : P < s0.heap.objs.size := Heap.lt_size hPs
  have hP2 : h2.get? P = some { cls := .none, data := .fields ps } := k2 _ _ hPs
  have cd : PySem.W.CodeHd h2 c P := TB.code.keeps fun b u e => k2 b u (I1.bk b u e)
  have lim2 : h2.NoLimit := I1.nolimit.keeps k2
  have hcP : cStatics ≠ P := fun e => by
    obtain ⟨_, hns, _⟩ := I1.nolimit
    obtain ⟨o', es, ep, ho, hd, _⟩ := hns
    rw [e, hPs] at ho
    cases ho
    cases hd
  have hcl : cStatics < s0.heap.objs.size := let ⟨_, hns, _⟩ := I1.nolimit; hns.lt
  have hcw : cStatics ∉ wr := fun z => Nat.lt_irrefl _ (Nat.lt_of_lt_of_le hcl (hwr _ z))
  have cont : ∀ (code : Value) (h3 : Heap) (tk : Nat) (ps' : Array Value), Heap.ExtBut P h2 h3 → h2.objs.size ≤ h3.objs.size → h3.get? P = some { cls := .none, data := .fields ps' } → (∃ more, ps' = ps ++ more) → TriplesOk ps'.toList →
      wpAny (model X.prog X.w) X.A (builtinsFor X.env.globals X.env.builtins) (fun bi s₄ => bi = builtinsNs ∧ Wk code s₄) X.xe { s0 with heap := h3, toks := tk } := by
    intro code h3 tk ps' hx hsz hP3 hmore ht3
    obtain ⟨bm, ob, e1, e2, e3, e4, e5, e6, e7, e8⟩ := TB.bm
    have keep3 : ∀ b u, b ≠ P → s0.heap.get? b = some u → h3.get? b = some u := fun b u hb e => hx b u hb (k2 _ _ e)
    refine wpAny_builtinsFor (m := X.mg) (by rw [I1.ok.glob]; exact ((I1.mod.glob.keeps I1.bk).keeps k2).extBut hx TB.gP) e1 e2 (keep3 _ _ e4 (I1.bk _ _ e5)) e6 e7 e8 ⟨rfl, ?_⟩
    refine h code h3 tk hx hsz (lim2.extBut hx hcP) hcw keep3 fun h5 gs gn tk5 s' hgb hk5 hm => ?_
    obtain ⟨more, em⟩ := hmore
    have hs3 : s0.heap.objs.size ≤ h3.objs.size := Nat.le_trans z2 hsz
    have nwr : ∀ b u, s0.heap.get? b = some u → b ∉ h3.objs.size :: wr := fun b u e hb => by
      have hl := Heap.lt_size e
      rcases List.mem_cons.mp hb with z | z
      · rw [z] at hl
        exact absurd (Nat.lt_of_lt_of_le hl hs3) (Nat.lt_irrefl _)
      · exact Nat.lt_irrefl _ (Nat.lt_of_lt_of_le hl (hwr b z))
    have J := inv_tab (more := more) (h' := s'.heap) (g' := s'.gens) (d' := s'.drawn) (t' := s'.toks) I1 hP (fun b u hb e => hm.heap b u (nwr b u e) (hk5 b u (keep3 b u hb e)))
      (by rw [← em]; exact hm.heap P _ (nwr P _ hPs) (hk5 P _ hP3)) (AllBare.movedS (I1.bare.push hgb) hm)
    rw [sh_eta s0 s' hm.os] at J
    exact ⟨upd H1 P (.tbl (ps ++ more)), ⟨⟨ps ++ more, upd_same, by rw [← em]; exact ht3⟩, fun b hb => upd_ne hb⟩, J⟩
  refine ⟨lim2, ?_⟩
  cases hf : codeAmong gpos ps.toList with
  | none =>
    refine wpAny_genexprCodeX hcode (cd.code hP2 ht) (cd.tab hP2) hf fun c' h' tk hx hge hlt hco' _ htab' _ => ?_
    obtain ⟨o1, vs, f1, tf, fl, tg, inF, tx, tt, op, _, _, _, _, _, _, _, _, _, htr, _⟩ := hco'
    exact cont _ h' tk _ hx (Nat.le_trans hge (Nat.le_of_lt hlt)) htab'.2 ⟨_, rfl⟩ htr
  | some cv =>
    refine wpAny_genexprCode_hit hcode (cd.code hP2 ht) hf ?_
    exact cont cv h2 tk2 ps (Heap.ExtBut.refl _ _) (Nat.le_refl _) hP2 ⟨#[], by simp⟩ ht

/-- (elt for x in iter if ..): the generator -/
theorem gen1 {c P : Addr} {elt iter : Expr} {ifs : List Expr} {x : Str} {px gpos : Pos} {scope : Scope} {t : TS1} {tt : GB} {te : GV} {k : Nat} {Q' : Value → Shared → Prop} {R : List V → Hp → Prop}
    (hr : Room k X.A) (TB : TabB X.base X.mg c P) (hcode : X.env.code = .ref c) (S : GenN X.env.scope scope [x]) (hi : GS1 X iter t) (hts : GTs X P scope [x] ifs tt) (hel : GE X P scope [x] elt te)
    (hs : ∀ v, genFold iter X.env v = pure v) (I : Inv X pins σ H s)
    (h : t σ H fun vs H1 => TabG H1 P ∧ ∃ (pz : V → Bool) (F : V → V), (∀ x ∈ vs, tt [x] σ H1 (pz x)) ∧ (∀ x ∈ vs, pz x = true → te [x] σ H1 (F x)) ∧ R ((vs.filter pz).map F) H1)
    (hQ : ∀ L H1 g s5, R L H1 → Ready X pins σ H1 P L g s5 → Q' (.ref g) s5) :
    wpAny (model X.prog X.w) X.A (eval (.GeneratorExp elt [⟨.Name x px, iter, ifs, 0⟩] scope gpos) X.env) Q' X.xe s := by
  refine wpAny_GeneratorExp_walksQ hr.hd S.co (closure_ok (S.fr I)) S.cell S.dot (S.loc x List.mem_cons_self) S.kind (by have := hr.dp; omega) ?_ hs
  refine thn (hi.run pins s σ H _ I h) fun xv s1 h1 => thn h1 fun it s2 h2 => ?_
  obtain ⟨s0, H1, vs, I1, ⟨T, pz, F, ht, he, q⟩, hg, Ia, fp, wr, St, rfl, W, hst, hfp, hwr⟩ := h2
  have B := gen_behind (Wk := fun code s₄ => ∃ Ia' fp wr n₀ Pf St₀ pz' F', Value.ref Ia = .ref Ia' ∧ (∀ A' : Around, A'.handled = none → Walks X.prog X.w A' Ia' fp wr n₀ Pf St₀) ∧ St₀ 0 s₄.heap ∧ (∀ b ∈ fp, b < s₄.heap.objs.size) ∧ s₄.heap.NoLimit ∧ cStatics ∉ wr ∧
          (∀ href : Heap, (∀ b o, s₄.heap.get? b = some o → href.get? b = some o) →
            QuietGen X.prog X.w (genEnv scope (cloFrom X.env.cells scope.names []) s₄.heap.objs.size code builtinsNs X.env) x ifs elt (List.range s₄.heap.objs.size) wr Pf pz' F' href) ∧
          (∀ a h₅ tk gs, gs.bare = true → s₄.heap.objs.size < a → h₅.objs.size = a + 1 → (∀ b o, s₄.heap.get? b = some o → h₅.get? b = some o) →
            WalksS X.prog X.w X.A.in4 a (a :: s₄.heap.objs.size :: List.range s₄.heap.objs.size) (s₄.heap.objs.size :: wr) (GenOnlyQ s₄.gens.size) (passing pz' n₀ 0).length
              (fun j y => ∃ i, (passing pz' n₀ 0)[j]? = some i ∧ F' i y) (GenAt X.prog X.w X.A.in4 a s₄.gens.size s₄.heap.objs.size (List.range s₄.heap.objs.size) wr pz' n₀ F') →
            GenAt X.prog X.w X.A.in4 a s₄.gens.size s₄.heap.objs.size (List.range s₄.heap.objs.size) wr pz' n₀ F' 0 { s₄ with gens := s₄.gens.push gs, toks := tk, heap := h₅ } →
            Q' (.ref a) { s₄ with gens := s₄.gens.push gs, toks := tk, heap := h₅ })) (gpos := gpos) hr TB hcode S I1 hg T hwr ?_
  · refine ⟨B.1, thn B.2 fun code s₃ h3 => thn h3 fun bi s₄ ⟨e, h4⟩ => ?_⟩
    subst e
    exact h4
  intro code h3 tk hx hsz lim hcw kp3 done
  have hgens : s2.gens = s0.gens := by obtain ⟨h', tk', e, _⟩ := hg; rw [e]
  have hPn : ∀ b ∈ fp, b ≠ P := fun b hb z => by
    obtain ⟨o, ho, hc⟩ := hfp b hb
    obtain ⟨h', tk', e, k', _⟩ := hg
    obtain ⟨ps, hP, _⟩ := T
    have e1 : s2.heap.get? P = some { cls := .none, data := .fields ps } := by
      rw [e]
      exact k' _ _ (I1.hok P _ hP)
    rw [z, e1] at ho
    cases ho
    exact hc rfl
  have gf : Gf X scope (genEnv scope (cloFrom X.env.cells scope.names []) h3.objs.size code builtinsNs X.env) := ⟨rfl, S.kind, rfl, rfl, fun y c hf hc => clo_lookup hf hc⟩
  refine ⟨Ia, fp, wr, vs.length, _, St, fun i => (vs[i]?.map pz).getD false, fun i y => ∃ x, vs[i]? = some x ∧ RelV (F x) y, rfl, W, (W X.A hr.hd).frame _ _ _ hst fun b hb o e => hx b o (hPn b hb) e, fun b hb => ?_, lim, hcw, fun href hhref => ?_, ?_⟩
  · obtain ⟨o, ho, _⟩ := hfp b hb
    exact Heap.lt_size (hx b o (hPn b hb) ho)
  · have kpOf : ∀ s₂ : Shared, (∀ b ∈ List.range h3.objs.size, b ∉ wr → ∀ o, href.get? b = some o → s₂.heap.get? b = some o) → Kp P s0.heap s₂.heap := fun s₂ hk b o hb e => by
      have e3 := kp3 b o hb e
      refine hk b (List.mem_range.mpr (Heap.lt_size e3)) (fun z => ?_) o (hhref b o e3)
      exact Nat.lt_irrefl _ (Nat.lt_of_lt_of_le (Heap.lt_size e) (hwr b z))
    refine ⟨fun A' E' i v s₂ m₂ hA hPv hn hm hk => ?_, fun A' E' i v s₂ m₂ hA hPv hp hn hm hk => ?_⟩
    · obtain ⟨y, hy, rv⟩ := hPv
      have hz : (vs[i]?.map pz).getD false = pz y := by rw [hy]; rfl
      show wpAny _ _ _ (fun ok s₃ => ok = (vs[i]?.map pz).getD false ∧ Keeps s₂ s₃) _ _
      rw [hz]
      exact hts.run pins σ H1 s0 I1 T [y] [v] (pz y) (.cons rv .nil) rfl (ht y (List.mem_of_getElem? hy)) _ A' E' s₂ m₂ gf hn (fun p hp => by
        rcases List.mem_cons.mp hp with z | z
        · rw [z]; exact hm
        · cases z) (kpOf s₂ hk)
    · obtain ⟨y, hy, rv⟩ := hPv
      have hz : (vs[i]?.map pz).getD false = pz y := by rw [hy]; rfl
      have hp' : (vs[i]?.map pz).getD false = true := hp
      rw [hz] at hp'
      refine wpAny_mono (hel.run pins σ H1 s0 I1 T [y] [v] (F y) (.cons rv .nil) rfl (he y (List.mem_of_getElem? hy) hp') _ A' E' s₂ m₂ gf hn (fun p hp => by
        rcases List.mem_cons.mp hp with z | z
        · rw [z]; exact hm
        · cases z) (kpOf s₂ hk)) (fun u s₃ r => ⟨⟨y, hy, r.1⟩, r.2⟩) fun _ _ e => e
  · intro a h5 tk5 gs hgb hag hsz5 hk5 W5 hat
    have hlen : (passing (fun i => (vs[i]?.map pz).getD false) vs.length 0).length = ((vs.filter pz).map F).length := by rw [pass_len, List.length_map]
    refine hQ _ H1 a _ q ⟨_, _, _, _, _, hlen ▸ W5, hat, ?_, fun i s' st => st.1.typeIs, ?_, List.mem_cons_self, fun s' hm => ?_⟩
    · intro j y hy
      obtain ⟨i, hij, x', hx', r⟩ := hy
      refine ⟨F x', ?_, r⟩
      rw [List.getElem?_map, pass_at vs pz hij hx']
      rfl
    · intro b hb
      show b < h5.objs.size
      rw [hsz5]
      rcases List.mem_cons.mp hb with rfl | hb
      · exact Nat.lt_succ_self _
      · rcases List.mem_cons.mp hb with rfl | hb
        · exact Nat.lt_succ_of_lt hag
        · exact Nat.lt_succ_of_lt (Nat.lt_trans (List.mem_range.mp hb) hag)
    · refine done h5 gs #[] tk5 s' hgb hk5 ?_
      have hm' := hm
      simp only [hgens] at hm' ⊢
      exact hm'
/-- (elt for x in iter if ..): the generator -/
theorem gen1i {c P : Addr} {elt iter : Expr} {ifs : List Expr} {x : Str} {px gpos : Pos} {scope : Scope} {t : TS1} {tt : GB} {te : GV} {k : Nat} {Q' : Value → Shared → Prop} {R : List V → Hp → Prop}
    (hr : Room k X.A) (TB : TabB X.base X.mg c P) (hcode : X.env.code = .ref c) (S : GenN X.env.scope scope [x]) (hi : GS1 X iter t) (hts : GTs X P scope [x] ifs tt) (hel : GE X P scope [x] elt te)
    (hs : ∀ v, genFold iter X.env v = pure v) (I : Inv X pins σ H s)
    (h : t σ H fun vs H1 => TabG H1 P ∧ ∃ (pz : Nat → Bool) (F : Nat → V), (∀ i x, vs[i]? = some x → tt [x] σ H1 (pz i)) ∧ (∀ i x, vs[i]? = some x → pz i = true → te [x] σ H1 (F i)) ∧ R (((List.range vs.length).filter pz).map F) H1)
    (hQ : ∀ L H1 g s5, R L H1 → Ready X pins σ H1 P L g s5 → Q' (.ref g) s5) :
    wpAny (model X.prog X.w) X.A (eval (.GeneratorExp elt [⟨.Name x px, iter, ifs, 0⟩] scope gpos) X.env) Q' X.xe s := by
  refine wpAny_GeneratorExp_walksQ hr.hd S.co (closure_ok (S.fr I)) S.cell S.dot (S.loc x List.mem_cons_self) S.kind (by have := hr.dp; omega) ?_ hs
  refine thn (hi.run pins s σ H _ I h) fun xv s1 h1 => thn h1 fun it s2 h2 => ?_
  obtain ⟨s0, H1, vs, I1, ⟨T, pz, F, ht, he, q⟩, hg, Ia, fp, wr, St, rfl, W, hst, hfp, hwr⟩ := h2
  have B := gen_behind (Wk := fun code s₄ => ∃ Ia' fp wr n₀ Pf St₀ pz' F', Value.ref Ia = .ref Ia' ∧ (∀ A' : Around, A'.handled = none → Walks X.prog X.w A' Ia' fp wr n₀ Pf St₀) ∧ St₀ 0 s₄.heap ∧ (∀ b ∈ fp, b < s₄.heap.objs.size) ∧ s₄.heap.NoLimit ∧ cStatics ∉ wr ∧
          (∀ href : Heap, (∀ b o, s₄.heap.get? b = some o → href.get? b = some o) →
            QuietGen X.prog X.w (genEnv scope (cloFrom X.env.cells scope.names []) s₄.heap.objs.size code builtinsNs X.env) x ifs elt (List.range s₄.heap.objs.size) wr Pf pz' F' href) ∧
          (∀ a h₅ tk gs, gs.bare = true → s₄.heap.objs.size < a → h₅.objs.size = a + 1 → (∀ b o, s₄.heap.get? b = some o → h₅.get? b = some o) →
            WalksS X.prog X.w X.A.in4 a (a :: s₄.heap.objs.size :: List.range s₄.heap.objs.size) (s₄.heap.objs.size :: wr) (GenOnlyQ s₄.gens.size) (passing pz' n₀ 0).length
              (fun j y => ∃ i, (passing pz' n₀ 0)[j]? = some i ∧ F' i y) (GenAt X.prog X.w X.A.in4 a s₄.gens.size s₄.heap.objs.size (List.range s₄.heap.objs.size) wr pz' n₀ F') →
            GenAt X.prog X.w X.A.in4 a s₄.gens.size s₄.heap.objs.size (List.range s₄.heap.objs.size) wr pz' n₀ F' 0 { s₄ with gens := s₄.gens.push gs, toks := tk, heap := h₅ } →
            Q' (.ref a) { s₄ with gens := s₄.gens.push gs, toks := tk, heap := h₅ })) (gpos := gpos) hr TB hcode S I1 hg T hwr ?_
  · refine ⟨B.1, thn B.2 fun code s₃ h3 => thn h3 fun bi s₄ ⟨e, h4⟩ => ?_⟩
    subst e
    exact h4
  intro code h3 tk hx hsz lim hcw kp3 done
  have hgens : s2.gens = s0.gens := by obtain ⟨h', tk', e, _⟩ := hg; rw [e]
  have hPn : ∀ b ∈ fp, b ≠ P := fun b hb z => by
    obtain ⟨o, ho, hc⟩ := hfp b hb
    obtain ⟨h', tk', e, k', _⟩ := hg
    obtain ⟨ps, hP, _⟩ := T
    have e1 : s2.heap.get? P = some { cls := .none, data := .fields ps } := by
      rw [e]
      exact k' _ _ (I1.hok P _ hP)
    rw [z, e1] at ho
    cases ho
    exact hc rfl
  have gf : Gf X scope (genEnv scope (cloFrom X.env.cells scope.names []) h3.objs.size code builtinsNs X.env) := ⟨rfl, S.kind, rfl, rfl, fun y c hf hc => clo_lookup hf hc⟩
  refine ⟨Ia, fp, wr, vs.length, _, St, pz, fun i y => RelV (F i) y, rfl, W, (W X.A hr.hd).frame _ _ _ hst fun b hb o e => hx b o (hPn b hb) e, fun b hb => ?_, lim, hcw, fun href hhref => ?_, ?_⟩
  · obtain ⟨o, ho, _⟩ := hfp b hb
    exact Heap.lt_size (hx b o (hPn b hb) ho)
  · have kpOf : ∀ s₂ : Shared, (∀ b ∈ List.range h3.objs.size, b ∉ wr → ∀ o, href.get? b = some o → s₂.heap.get? b = some o) → Kp P s0.heap s₂.heap := fun s₂ hk b o hb e => by
      have e3 := kp3 b o hb e
      refine hk b (List.mem_range.mpr (Heap.lt_size e3)) (fun z => ?_) o (hhref b o e3)
      exact Nat.lt_irrefl _ (Nat.lt_of_lt_of_le (Heap.lt_size e) (hwr b z))
    refine ⟨fun A' E' i v s₂ m₂ hA hPv hn hm hk => ?_, fun A' E' i v s₂ m₂ hA hPv hp hn hm hk => ?_⟩
    · obtain ⟨y, hy, rv⟩ := hPv
      exact hts.run pins σ H1 s0 I1 T [y] [v] (pz i) (.cons rv .nil) rfl (ht i y hy) _ A' E' s₂ m₂ gf hn (fun p hp => by
        rcases List.mem_cons.mp hp with z | z
        · rw [z]; exact hm
        · cases z) (kpOf s₂ hk)
    · obtain ⟨y, hy, rv⟩ := hPv
      have hp' : pz i = true := hp
      refine wpAny_mono (hel.run pins σ H1 s0 I1 T [y] [v] (F i) (.cons rv .nil) rfl (he i y hy hp') _ A' E' s₂ m₂ gf hn (fun p hp => by
        rcases List.mem_cons.mp hp with z | z
        · rw [z]; exact hm
        · cases z) (kpOf s₂ hk)) (fun u s₃ r => ⟨r.1, r.2⟩) fun _ _ e => e
  · intro a h5 tk5 gs hgb hag hsz5 hk5 W5 hat
    have epass : passing pz vs.length 0 = (List.range vs.length).filter pz := by simp [passing]
    have hlen : (passing pz vs.length 0).length = (((List.range vs.length).filter pz).map F).length := by rw [epass, List.length_map]
    refine hQ _ H1 a _ q ⟨_, _, _, _, _, hlen ▸ W5, hat, ?_, fun i s' st => st.1.typeIs, ?_, List.mem_cons_self, fun s' hm => ?_⟩
    · intro j y hy
      obtain ⟨i, hij, r⟩ := hy
      refine ⟨F i, ?_, r⟩
      rw [epass] at hij
      rw [List.getElem?_map, hij]
      rfl
    · intro b hb
      show b < h5.objs.size
      rw [hsz5]
      rcases List.mem_cons.mp hb with rfl | hb
      · exact Nat.lt_succ_self _
      · rcases List.mem_cons.mp hb with rfl | hb
        · exact Nat.lt_succ_of_lt hag
        · exact Nat.lt_succ_of_lt (Nat.lt_trans (List.mem_range.mp hb) hag)
    · refine done h5 gs #[] tk5 s' hgb hk5 ?_
      have hm' := hm
      simp only [hgens] at hm' ⊢
      exact hm'
/-- (elt for x in iter if ..): the generator -/
theorem gen2 {c P : Addr} {elt iter : Expr} {ifs : List Expr} {xa xb : Str} {pa pb pt gpos : Pos} {kt : Nat} {scope : Scope} {t : TS2} {tt : GB} {te : GV} {k : Nat} {Q' : Value → Shared → Prop} {R : List V → Hp → Prop}
    (hr : Room k X.A) (TB : TabB X.base X.mg c P) (hcode : X.env.code = .ref c) (S : GenN X.env.scope scope [xa, xb]) (hi : GS2 X iter t) (hts : GTs X P scope [xa, xb] ifs tt) (hel : GE X P scope [xa, xb] elt te)
    (hab : xa ≠ xb) (hs : ∀ v, genFold iter X.env v = pure v) (I : Inv X pins σ H s)
    (h : t σ H fun vs H1 => TabG H1 P ∧ ∃ (pz : V × V → Bool) (F : V × V → V), (∀ x ∈ vs, tt [x.1, x.2] σ H1 (pz x)) ∧ (∀ x ∈ vs, pz x = true → te [x.1, x.2] σ H1 (F x)) ∧ R ((vs.filter pz).map F) H1)
    (hQ : ∀ L H1 g s5, R L H1 → Ready X pins σ H1 P L g s5 → Q' (.ref g) s5) :
    wpAny (model X.prog X.w) X.A (eval (.GeneratorExp elt [⟨.Tuple [.Name xa pa, .Name xb pb] kt pt, iter, ifs, 0⟩] scope gpos) X.env) Q' X.xe s := by
  refine wpAny_GeneratorExp_walksQT hr.hd S.co (closure_ok (S.fr I)) S.cell S.dot (S.loc xa List.mem_cons_self) (S.loc xb (List.mem_cons_of_mem _ List.mem_cons_self)) hab S.kind (by have := hr.dp; omega) ?_ hs
  refine thn (hi.run pins s σ H _ I h) fun xv s1 h1 => thn h1 fun it s2 h2 => ?_
  obtain ⟨s0, H1, vs, I1, ⟨T, pz, F, ht, he, q⟩, hg, Ia, fp, wr, St, Mid, rfl, W, hst, hfp, hwr⟩ := h2
  have B := gen_behind (Wk := fun code s₄ => ∃ Ia' fp wr n₀ Pf St₀ Mid pz' F', Value.ref Ia = .ref Ia' ∧ (∀ A' : Around, A'.handled = none → WalksU X.prog X.w A' Ia' fp wr n₀ Pf St₀ Mid) ∧ (∀ i vals, Pf i vals → ∃ va vb, vals = #[va, vb]) ∧ St₀ 0 s₄.heap ∧ (∀ b ∈ fp, b < s₄.heap.objs.size) ∧ s₄.heap.NoLimit ∧ cStatics ∉ wr ∧
          (∀ href : Heap, (∀ b o, s₄.heap.get? b = some o → href.get? b = some o) →
            QuietGenT X.prog X.w (genEnv scope (cloFrom X.env.cells scope.names []) s₄.heap.objs.size code builtinsNs X.env) xa xb ifs elt (List.range s₄.heap.objs.size) wr Pf pz' F' href) ∧
          (∀ a h₅ tk gs, gs.bare = true → s₄.heap.objs.size < a → h₅.objs.size = a + 1 → (∀ b o, s₄.heap.get? b = some o → h₅.get? b = some o) →
            WalksS X.prog X.w X.A.in4 a (a :: s₄.heap.objs.size :: List.range s₄.heap.objs.size) (s₄.heap.objs.size :: wr) (GenOnlyQ s₄.gens.size) (passing pz' n₀ 0).length
              (fun j y => ∃ i, (passing pz' n₀ 0)[j]? = some i ∧ F' i y) (GenAt X.prog X.w X.A.in4 a s₄.gens.size s₄.heap.objs.size (List.range s₄.heap.objs.size) wr pz' n₀ F') →
            GenAt X.prog X.w X.A.in4 a s₄.gens.size s₄.heap.objs.size (List.range s₄.heap.objs.size) wr pz' n₀ F' 0 { s₄ with gens := s₄.gens.push gs, toks := tk, heap := h₅ } →
            Q' (.ref a) { s₄ with gens := s₄.gens.push gs, toks := tk, heap := h₅ })) (gpos := gpos) hr TB hcode S I1 hg T hwr ?_
  · refine ⟨B.1, thn B.2 fun code s₃ h3 => thn h3 fun bi s₄ ⟨e, h4⟩ => ?_⟩
    subst e
    exact h4
  intro code h3 tk hx hsz lim hcw kp3 done
  have hgens : s2.gens = s0.gens := by obtain ⟨h', tk', e, _⟩ := hg; rw [e]
  have hPn : ∀ b ∈ fp, b ≠ P := fun b hb z => by
    obtain ⟨o, ho, hc⟩ := hfp b hb
    obtain ⟨h', tk', e, k', _⟩ := hg
    obtain ⟨ps, hP, _⟩ := T
    have e1 : s2.heap.get? P = some { cls := .none, data := .fields ps } := by
      rw [e]
      exact k' _ _ (I1.hok P _ hP)
    rw [z, e1] at ho
    cases ho
    exact hc rfl
  have gf : Gf X scope (genEnv scope (cloFrom X.env.cells scope.names []) h3.objs.size code builtinsNs X.env) := ⟨rfl, S.kind, rfl, rfl, fun y c hf hc => clo_lookup hf hc⟩
  refine ⟨Ia, fp, wr, vs.length, _, St, Mid, fun i => (vs[i]?.map pz).getD false, fun i y => ∃ x, vs[i]? = some x ∧ RelV (F x) y, rfl, W, (fun i vals hv => by obtain ⟨va, vb, _, _, e, _⟩ := hv; exact ⟨va, vb, e⟩), (W X.A hr.hd).frame _ _ _ hst fun b hb o e => hx b o (hPn b hb) e, fun b hb => ?_, lim, hcw, fun href hhref => ?_, ?_⟩
  · obtain ⟨o, ho, _⟩ := hfp b hb
    exact Heap.lt_size (hx b o (hPn b hb) ho)
  · have kpOf : ∀ s₂ : Shared, (∀ b ∈ List.range h3.objs.size, b ∉ wr → ∀ o, href.get? b = some o → s₂.heap.get? b = some o) → Kp P s0.heap s₂.heap := fun s₂ hk b o hb e => by
      have e3 := kp3 b o hb e
      refine hk b (List.mem_range.mpr (Heap.lt_size e3)) (fun z => ?_) o (hhref b o e3)
      exact Nat.lt_irrefl _ (Nat.lt_of_lt_of_le (Heap.lt_size e) (hwr b z))
    refine ⟨fun A' E' i va vb s₂ m₂ hA hPv hn hm hmb hk => ?_, fun A' E' i va vb s₂ m₂ hA hPv hp hn hm hmb hk => ?_⟩
    · obtain ⟨va', vb', ya, yb, ev, hy, rva, rvb⟩ := hPv
      obtain ⟨e1, e2⟩ : va = va' ∧ vb = vb' := by simpa using congrArg Array.toList ev
      subst e1 e2
      have hz : (vs[i]?.map pz).getD false = pz (ya, yb) := by rw [hy]; rfl
      show wpAny _ _ _ (fun ok s₃ => ok = (vs[i]?.map pz).getD false ∧ Keeps s₂ s₃) _ _
      rw [hz]
      exact hts.run pins σ H1 s0 I1 T [ya, yb] [va, vb] (pz (ya, yb)) (.cons rva (.cons rvb .nil)) rfl (ht (ya, yb) (List.mem_of_getElem? hy)) _ A' E' s₂ m₂ gf hn (fun p hp => by
        rcases List.mem_cons.mp hp with z | z
        · rw [z]; exact hm
        · rcases List.mem_cons.mp z with z | z
          · rw [z]; exact hmb
          · cases z) (kpOf s₂ hk)
    · obtain ⟨va', vb', ya, yb, ev, hy, rva, rvb⟩ := hPv
      obtain ⟨e1, e2⟩ : va = va' ∧ vb = vb' := by simpa using congrArg Array.toList ev
      subst e1 e2
      have hz : (vs[i]?.map pz).getD false = pz (ya, yb) := by rw [hy]; rfl
      have hp' : (vs[i]?.map pz).getD false = true := hp
      rw [hz] at hp'
      refine wpAny_mono (hel.run pins σ H1 s0 I1 T [ya, yb] [va, vb] (F (ya, yb)) (.cons rva (.cons rvb .nil)) rfl (he (ya, yb) (List.mem_of_getElem? hy) hp') _ A' E' s₂ m₂ gf hn (fun p hp => by
        rcases List.mem_cons.mp hp with z | z
        · rw [z]; exact hm
        · rcases List.mem_cons.mp z with z | z
          · rw [z]; exact hmb
          · cases z) (kpOf s₂ hk)) (fun u s₃ r => ⟨⟨(ya, yb), hy, r.1⟩, r.2⟩) fun _ _ e => e
  · intro a h5 tk5 gs hgb hag hsz5 hk5 W5 hat
    have hlen : (passing (fun i => (vs[i]?.map pz).getD false) vs.length 0).length = ((vs.filter pz).map F).length := by rw [pass_len, List.length_map]
    refine hQ _ H1 a _ q ⟨_, _, _, _, _, hlen ▸ W5, hat, ?_, fun i s' st => st.1.typeIs, ?_, List.mem_cons_self, fun s' hm => ?_⟩
    · intro j y hy
      obtain ⟨i, hij, x', hx', r⟩ := hy
      refine ⟨F x', ?_, r⟩
      rw [List.getElem?_map, pass_at vs pz hij hx']
      rfl
    · intro b hb
      show b < h5.objs.size
      rw [hsz5]
      rcases List.mem_cons.mp hb with rfl | hb
      · exact Nat.lt_succ_self _
      · rcases List.mem_cons.mp hb with rfl | hb
        · exact Nat.lt_succ_of_lt hag
        · exact Nat.lt_succ_of_lt (Nat.lt_trans (List.mem_range.mp hb) hag)
    · refine done h5 gs #[] tk5 s' hgb hk5 ?_
      have hm' := hm
      simp only [hgens] at hm' ⊢
      exact hm'
end
end G9
set_option Elab.async false
set_option linter.all false
set_option maxRecDepth 100000
set_option maxHeartbeats 2000000
namespace G9
open PySem PySem.Spec PyProof.Rows L2 GxR

theorem wpAny_letOwnedTupleGo_tupleiter {prog : Program} {w : World} {A : Around} {E : Value → Shared → Prop} {s : Shared} {elts : List Expr} {x1} {pos : Pos} {I l T : Addr} {i : Nat} {Q : Unit → Shared → Prop} (hit : s.heap.IsTupleIter I l i) (hQ : Q () s) :
    wpAny (model prog w) A (letOwnedTupleGo (.Tuple elts x1 pos) (.ref I) (.ref T)) Q E s := by
  obtain ⟨o, ho, hc, hd⟩ := hit
  unfold letOwnedTupleGo
  refine wpAny_bind (wpAny_load ho ?_)
  rw [hc, hd]
  show wpAny _ A (if (["enumerate", "zip", "dict_itemiterator", "dict_reverseitemiterator", "odict_iterator", "itertools.zip_longest", "itertools.pairwise"].contains "tuple_iterator" &&
      (#[.ref l, .int i 0] : Array Value)[0]? == some (rawInt T)) = true then _ else _) Q E s
  rw [if_neg (by
    intro h
    rw [show (["enumerate", "zip", "dict_itemiterator", "dict_reverseitemiterator", "odict_iterator", "itertools.zip_longest", "itertools.pairwise"].contains "tuple_iterator") = false from by decide, Bool.false_and] at h
    cases h)]
  exact wpAny_pure hQ

theorem WalksU.tupleOfTuples {prog : Program} {w : World} {A : Around} (hh : A.handled = none) (I ax : Addr) (hne : ax ≠ I) (items : Array Value) (Ts : Nat → Addr) (vals : Nat → Array Value)
    (hit : ∀ j, j < items.size → items[j]? = some (.ref (Ts j))) (hTI : ∀ j, j < items.size → Ts j ≠ I) :
    WalksU prog w A I (I :: ax :: (List.range items.size).map Ts) [I] items.size (fun j v => j < items.size ∧ v = vals j)
      (fun j h => h.IsTupleIter I ax j ∧ h.IsTuple ax items ∧ ∀ k, k < items.size → h.IsTuple (Ts k) (vals k))
      (fun j T h => (j < items.size ∧ T = Ts j) ∧ h.IsTupleIter I ax (j + 1) ∧ h.IsTuple ax items ∧ ∀ k, k < items.size → h.IsTuple (Ts k) (vals k)) where
  sub := fun b hb => by simp at hb; simp [hb]
  frame := fun _ _ _ st hk => ⟨st.1.at fun o e => hk I (by simp) o e, st.2.1.at fun o e => hk ax (by simp) o e,
    fun k hk' => (st.2.2 k hk').at fun o e => hk (Ts k) (List.mem_cons_of_mem _ (List.mem_cons_of_mem _ (List.mem_map.mpr ⟨k, List.mem_range.mpr hk', rfl⟩))) o e⟩
  item := fun i s Q E hi st hQ => by
    refine wpAny_pyNext_tuple_item st.1 st.2.1 (x := .ref (Ts i)) (hit i hi) fun h' hit' hs' => ?_
    have tup : ∀ k, k < items.size → h'.IsTuple (Ts k) (vals k) := fun k hk' => (st.2.2 k hk').extBut hs'.extBut (hTI k hk')
    exact hQ (Ts i) (vals i) h' s.toks ⟨hi, rfl⟩ (tup i hi) ⟨⟨hi, rfl⟩, hit', st.2.1.extBut hs'.extBut hne, tup⟩ fun b o hb e => hs'.extBut b o (fun h => hb (by simp [h])) e
  go := fun _ _ _ _ _ s Q _ hm hQ => wpAny_letOwnedTupleGo_tupleiter hm.2.1 (hQ s.heap hm.2 fun _ _ _ e => e)
  apart := fun j T _ hm hmem => by
    rcases List.mem_cons.mp hmem with e | e
    · exact hTI j hm.1.1 (hm.1.2 ▸ e)
    · cases e
  done := fun s Q E st hQ => wpAny_pyNext_tuple_end hh st.1 st.2.1 (by simp) fun h' he' => hQ h' s.toks fun b o hb e => he' b o (fun h => hb (by simp [h])) e
  self := fun _ _ _ _ st hQ => wpAny_pyIter_tupleiter st.1 hQ

section
variable {X : Cx} {iter : Expr} {te : TE}
theorem grew_push {s : Shared} {o : Obj} : Grew s { s with heap := s.heap.push o } := ⟨_, s.toks, rfl, fun _ _ e => Heap.get?_push_of_some _ e, by rw [Heap.size_push]; exact Nat.le_succ _⟩
/-- x in a tuple or a list -/
def tSeq (K : PySem.W.Frag) (te : TE) : TS1 := fun σ H R => te σ H fun v H1 => ∃ a vs, v = .ref a ∧ (SqL K H1 a vs ∨ SqT K H1 a vs) ∧ R vs H1
theorem gs_seq (h : PE X iter te) (hh : X.A.handled = none := by rfl) : GS1 X iter (tSeq X.K te) := by
  refine ⟨fun pins s σ H R I q => thn (h.run pins s σ H _ I q) fun xv s1 ⟨v, H1, I1, r1, a, vs, e, hq, q1⟩ => ?_⟩
  subst e
  cases r1
  rcases hq with hq | hq
  · obtain ⟨its, r', pl, hz⟩ := I1.list hq
    obtain ⟨o, ho, hc, rest⟩ := pl.isList
    have hlt := Heap.lt_size ho
    refine wpAny_pyIter_list pl.isList ⟨s1, H1, vs, I1, q1, grew_push, s1.heap.objs.size, [s1.heap.objs.size, a], [s1.heap.objs.size], (fun i h => h.IsListIter s1.heap.objs.size a i ∧ h.IsList a its.toArray), rfl, fun A' hA => ?_, ⟨⟨_, Heap.get?_push_size _ rfl, rfl, rfl⟩, pl.isList.push _⟩, fun b hb => ?_, fun b hb => by rw [List.mem_singleton.mp hb]; exact Nat.le_refl _⟩
    · have W := Walks.list (prog := X.prog) (w := X.w) hA s1.heap.objs.size a (Nat.ne_of_lt hlt) its.toArray
      have e : its.toArray.size = vs.length := by simp [r'.length]
      rw [← e]
      exact { W with item := fun i s Q E hi st hQ => W.item i s Q E hi st fun v h' tk hv => hQ v h' tk (by
          obtain ⟨x, hx, rx⟩ : ∃ x, vs[i]? = some x ∧ RelV x v := by
            have hl : i < vs.length := by rw [← e]; exact hi
            obtain ⟨u, hu, ru⟩ := Vals.get r' (List.getElem?_eq_getElem hl)
            have hv' : its[i]? = some v := by simpa using hv
            rw [hu] at hv'
            cases hv'
            exact ⟨_, List.getElem?_eq_getElem hl, ru⟩
          exact ⟨x, hx, rx⟩) }
    · rcases List.mem_cons.mp hb with z | z
      · exact ⟨_, by rw [z]; exact Heap.get?_push_size _ rfl, by simp⟩
      · rw [List.mem_singleton.mp z]
        exact ⟨o, Heap.get?_push_of_some _ ho, by rw [hc]; simp⟩
  · obtain ⟨its, r', pl, hz⟩ := I1.tuple hq
    obtain ⟨o, ho, hc, rest⟩ := id pl
    have hlt := Heap.lt_size ho
    refine wpAny_pyIter_tuple pl ⟨s1, H1, vs, I1, q1, grew_push, s1.heap.objs.size, [s1.heap.objs.size, a], [s1.heap.objs.size], (fun i h => h.IsTupleIter s1.heap.objs.size a i ∧ h.IsTuple a its.toArray), rfl, fun A' hA => ?_, ⟨⟨_, Heap.get?_push_size _ rfl, rfl, rfl⟩, Heap.IsTuple.at pl fun o e => Heap.get?_push_of_some _ e⟩, fun b hb => ?_, fun b hb => by rw [List.mem_singleton.mp hb]; exact Nat.le_refl _⟩
    · have W := Walks.tuple (prog := X.prog) (w := X.w) hA s1.heap.objs.size a (Nat.ne_of_lt hlt) its.toArray
      have e : its.toArray.size = vs.length := by simp [r'.length]
      rw [← e]
      exact { W with item := fun i s Q E hi st hQ => W.item i s Q E hi st fun v h' tk hv => hQ v h' tk (by
          obtain ⟨x, hx, rx⟩ : ∃ x, vs[i]? = some x ∧ RelV x v := by
            have hl : i < vs.length := by rw [← e]; exact hi
            obtain ⟨u, hu, ru⟩ := Vals.get r' (List.getElem?_eq_getElem hl)
            have hv' : its[i]? = some v := by simpa using hv
            rw [hu] at hv'
            cases hv'
            exact ⟨_, List.getElem?_eq_getElem hl, ru⟩
          exact ⟨x, hx, rx⟩) }
    · rcases List.mem_cons.mp hb with z | z
      · exact ⟨_, by rw [z]; exact Heap.get?_push_size _ rfl, by simp⟩
      · rw [List.mem_singleton.mp z]
        exact ⟨o, Heap.get?_push_of_some _ ho, by rw [hc]; simp⟩

/-- a, b in a tuple of pairs -/
def PairsAt (K : PySem.W.Frag) (H : Hp) (a : Addr) (ps : List (V × V)) : Prop := ∃ ts : List Addr, SqT K H a (ts.map V.ref) ∧ ts.length = ps.length ∧ ∀ (j : Nat) (t : Addr) (p : V × V), ts[j]? = some t → ps[j]? = some p → SqT K H t [p.1, p.2]
def tPairs (K : PySem.W.Frag) (te : TE) : TS2 := fun σ H R => te σ H fun v H1 => ∃ a ps, v = .ref a ∧ PairsAt K H1 a ps ∧ R ps H1
theorem gs_pairs (h : PE X iter te) : GS2 X iter (tPairs X.K te) := by
  refine ⟨fun pins s σ H R I q => thn (h.run pins s σ H _ I q) fun xv s1 ⟨v, H1, I1, r1, a, ps, e, ⟨ts, hq, hl, hp⟩, q1⟩ => ?_⟩
  subst e
  cases r1
  obtain ⟨its, r', pl, hz⟩ := I1.tuple hq
  obtain ⟨o, ho, hc, rest⟩ := id pl
  have hlt := Heap.lt_size ho
  have hlen : its.length = ts.length := by simpa using r'.length.symm
  have refs : ∀ j, j < its.toArray.size → ∃ t p va vb, ts[j]? = some t ∧ ps[j]? = some p ∧ its.toArray[j]? = some (.ref t) ∧ IsTup s1.heap t #[va, vb] ∧ RelV p.1 va ∧ RelV p.2 vb := fun j hj => by
    have hj1 : j < ts.length := by rw [← hlen]; simpa using hj
    have hj2 : j < ps.length := by rw [← hl]; exact hj1
    have e1 := List.getElem?_eq_getElem hj1
    have e2 := List.getElem?_eq_getElem hj2
    obtain ⟨u, hu, ru⟩ := Vals.get r' (i := j) (x := V.ref ts[j]) (by rw [List.getElem?_map, e1]; rfl)
    cases ru
    obtain ⟨its2, r2, pl2, _⟩ := I1.tuple (hp j _ _ e1 e2)
    cases r2 with
    | cons ra rb =>
      cases rb with
      | cons rb rc =>
        cases rc
        exact ⟨_, _, _, _, e1, e2, by simpa using hu, pl2, ra, rb⟩
  have hsz : its.toArray.size = ps.length := by simp [hlen, hl]
  let Ts : Nat → Addr := fun j => ts.getD j 0
  have hTs : ∀ j t, ts[j]? = some t → Ts j = t := fun j t e => by
    show ts.getD j 0 = t
    rw [List.getD_eq_getElem?_getD, e]
    rfl
  have : ∃ vals : Nat → Array Value, ∀ j, j < its.toArray.size → IsTup s1.heap (Ts j) (vals j) ∧ ∃ va vb x y, vals j = #[va, vb] ∧ ps[j]? = some (x, y) ∧ RelV x va ∧ RelV y vb := by
    refine ⟨fun j => if hj : j < its.toArray.size then #[(refs j hj).choose_spec.choose_spec.choose, (refs j hj).choose_spec.choose_spec.choose_spec.choose] else #[], fun j hj => ?_⟩
    have z := (refs j hj).choose_spec.choose_spec.choose_spec.choose_spec
    simp only [dif_pos hj]
    refine ⟨?_, _, _, _, _, rfl, z.2.1, z.2.2.2.2.1, z.2.2.2.2.2⟩
    rw [hTs j _ z.1]
    exact z.2.2.2.1
  obtain ⟨vals, hv⟩ := this
  have hTlt : ∀ j, j < its.toArray.size → ∃ o, s1.heap.get? (Ts j) = some o ∧ o.cls ≠ .none := fun j hj => by
    obtain ⟨o, ho, hc, _⟩ := (hv j hj).1
    exact ⟨o, ho, by rw [hc]; simp⟩
  refine wpAny_pyIter_tuple pl ⟨s1, H1, ps, I1, q1, grew_push, s1.heap.objs.size, s1.heap.objs.size :: a :: (List.range its.toArray.size).map Ts, [s1.heap.objs.size], (fun j h => h.IsTupleIter s1.heap.objs.size a j ∧ h.IsTuple a its.toArray ∧ ∀ k, k < its.toArray.size → h.IsTuple (Ts k) (vals k)), (fun j T h => (j < its.toArray.size ∧ T = Ts j) ∧ h.IsTupleIter s1.heap.objs.size a (j + 1) ∧ h.IsTuple a its.toArray ∧ ∀ k, k < its.toArray.size → h.IsTuple (Ts k) (vals k)), rfl, fun A' hA => ?_,
    ⟨⟨_, Heap.get?_push_size _ rfl, rfl, rfl⟩, Heap.IsTuple.at pl fun o e => Heap.get?_push_of_some _ e, fun k hk => Heap.IsTuple.at (hv k hk).1 fun o e => Heap.get?_push_of_some _ e⟩, fun b hb => ?_, fun b hb => by rw [List.mem_singleton.mp hb]; exact Nat.le_refl _⟩
  · have W := WalksU.tupleOfTuples (prog := X.prog) (w := X.w) hA s1.heap.objs.size a (Nat.ne_of_lt hlt) its.toArray Ts vals (fun j hj => by
        obtain ⟨t, p, va, vb, e1, e2, e3, _⟩ := refs j hj
        rw [hTs j t e1]
        exact e3) (fun j hj => by
        obtain ⟨o, ho, _⟩ := hTlt j hj
        exact Nat.ne_of_lt (Heap.lt_size ho))
    rw [← hsz]
    exact { W with item := fun i s Q E hi st hQ => W.item i s Q E hi st fun T vs' h' tk hvv => hQ T vs' h' tk (by
        obtain ⟨hi', rfl⟩ := hvv
        exact (hv i hi').2) }
  · rcases List.mem_cons.mp hb with z | z
    · exact ⟨_, by rw [z]; exact Heap.get?_push_size _ rfl, by simp⟩
    · rcases List.mem_cons.mp z with z | z
      · rw [z]
        exact ⟨o, Heap.get?_push_of_some _ ho, by rw [hc]; simp⟩
      · obtain ⟨j, hj, rfl⟩ := List.mem_map.mp z
        obtain ⟨o, ho, hc⟩ := hTlt j (List.mem_range.mp hj)
        exact ⟨o, Heap.get?_push_of_some _ ho, hc⟩
end
end G9
set_option Elab.async false
set_option linter.all false
set_option maxRecDepth 100000
set_option maxHeartbeats 2000000
namespace G9
open PySem PySem.Spec PyProof.Rows L2 GxR
open Sem (wp)

set_option maxHeartbeats 4000000 in
theorem meets_enum1 {v : Value} {o : Obj} {H : Heap → Prop} (B : Begins v o H) :
    Meets (Builtin.«enumerate.__new__» ⟨[.type "enumerate", v], []⟩) (fun _ R s => H s.heap ∧
      R (.ok (.ret (.ref (s.heap.push o).objs.size))) { s with heap := (s.heap.push o).push { cls := .type "enumerate", data := .fields #[.none, .bool false, .ref s.heap.objs.size, rawInt 0, .none, .none] } }) :=
  .of_wp fun prog w A R s h => by
    obtain ⟨hp, g, d, tk, os⟩ := s; obtain ⟨h1, h⟩ := h
    have hsub := sub_enumerate
    have q1 : ∀ {A' : Around} {E : Value → Shared → Prop} {Q : Value → Shared → Prop}, Q (.ref hp.objs.size) ⟨hp.push o, g, d, tk, os⟩ → wpAny (model prog w) A' (pyIter v) Q E ⟨hp, g, d, tk, os⟩ :=
      fun q => B.iter prog w _ _ ⟨hp, g, d, tk, os⟩ _ h1 q
    wp_walk using q1
    refine wpAny_stack_any fun st => wpAny_pure ?_
    split
    · rename_i c _ _ _ _ _
      cases (c == Value.type "enumerate")
      · wp_walk using q1
        exact ⟨_, rfl, h⟩
      · wp_walk using q1
        exact ⟨_, rfl, h⟩
    · wp_walk using q1
      exact ⟨_, rfl, h⟩
theorem enum_begins1 {prog : Program} {w : World} {A : Around} {E : Value → Shared → Prop} {s : Shared} {v : Value} {o : Obj} {H : Heap → Prop} {Q : Value → Shared → Prop} (B : Begins v o H) (h1 : H s.heap)
    (h : ∀ h', IsEnum h' (s.heap.objs.size + 1) s.heap.objs.size 0 .none → h'.get? s.heap.objs.size = some o → h'.objs.size = s.heap.objs.size + 2 →
      (∀ b o, s.heap.get? b = some o → h'.get? b = some o) → Q (.ref (s.heap.objs.size + 1)) { s with heap := h' }) :
    wpAny (model prog w) A (call (.type "enumerate") [v]) Q E s := by
  refine callType_new F.called_enumerate (by decide) (F.typeCall_enumerate_1 _) (F.newCall_enumerate_1 _) (fun obj => F.args_object_init_2 obj _) F.entry_enumerate_new
    (meets_enum1 B) ⟨h1, ?_⟩
  have hz : (s.heap.push o).objs.size = s.heap.objs.size + 1 := Heap.size_push ..
  show _ ∧ _
  rw [hz]
  have he : IsEnum ((s.heap.push o).push { cls := .type "enumerate", data := .fields #[.none, .bool false, .ref s.heap.objs.size, rawInt 0, .none, .none] }) (s.heap.objs.size + 1) s.heap.objs.size 0 .none := by
    have := Heap.get?_push_size (s.heap.push o) (o := { cls := .type "enumerate", data := .fields #[.none, .bool false, .ref s.heap.objs.size, rawInt 0, .none, .none] }) rfl
    rw [hz] at this; exact this
  refine ⟨⟨_, he, rfl⟩, h _ he (Heap.get?_push_of_some _ (Heap.get?_push_size _ B.free)) (by rw [Heap.size_push, hz]) fun b o x => Heap.get?_push_of_some _ (Heap.get?_push_of_some _ x)⟩

/-! ### for i, x in enumerate(a tuple) -/
def IteT (K : PySem.W.Frag) (a : Addr) : It :=
  ⟨fun i H => ∃ (xs : List V) (x : V), SqT K H a xs ∧ xs[i]? = some x, fun i H v H' => ∃ T x, v = .ref T ∧ H T = none ∧ H' = upd H T (.tup [.int (i : Nat), x]) ∧ ∀ xs, SqT K H a xs → xs[i]? = some x, fun i H => ∃ xs : List V, SqT K H a xs ∧ xs.length = i⟩
theorem turn_enumT {P : Program} {w : World} {K : PySem.W.Frag} {elts : List Expr} {kk : Nat} {tpos : Pos} (a e it : Addr) (hat : a ≠ it) :
    Turn P w K (.Tuple elts kk tpos) (IteT K a) [e, it] e (fun i h => (∃ old, IsEnum h e it ((i : Nat) : Int) old) ∧ h.IsTupleIter it a i ∧ e ≠ it) where
  mem := by simp
  obj := fun i h st b hb => by
    obtain ⟨⟨old, he⟩, ⟨o, ho, hc, hd⟩, _⟩ := st
    have e' : b = e ∨ b = it := by simpa using hb
    rcases e' with z | z
    · rw [z]; exact ⟨_, he, fun v q => nomatch q⟩
    · rw [z]; exact ⟨o, ho, fun v q => by rw [hd] at q; cases q⟩
  keep := fun i h h' st k => let ⟨⟨old, he⟩, hi, hne⟩ := st; ⟨⟨old, k e (by simp) _ he⟩, hi.at fun o q => k it (by simp) o q, hne⟩
  item := by
    intro X hP hw hK hc i pins s σ H E I hf st hg
    subst hP hw hK
    obtain ⟨⟨old, he⟩, hit, hne⟩ := st
    obtain ⟨xs, x, hq, hx⟩ := hg
    obtain ⟨its, rv, p, hz⟩ := I.tuple hq
    obtain ⟨u, hu, ru⟩ := rv.get hx
    have hel : e < s.heap.objs.size := Heap.lt_size he
    have hil : it < s.heap.objs.size := by obtain ⟨_, q, _⟩ := hit; exact Heap.lt_size q
    have hhd : X.A.handled = none := I.ok.hd hc
    have hie : e ∉ [it, a] := fun z => by
      rcases List.mem_cons.mp z with z | z
      · exact hne z
      · have z' := List.mem_singleton.mp z
        obtain ⟨o, ho, hcl, _⟩ := p
        rw [← z', he] at ho
        cases ho
        exact absurd hcl (by simp)
    refine wpAny_pyNext_enum_itemD (Draws.tuple (prog := X.prog) (w := X.w) (A := X.A.in1) hhd it a hat its.toArray) he ⟨hit, p⟩ (i := i) (by
      have := (List.getElem?_eq_some_iff.mp hx).1
      have hl := rv.length
      simp only [List.size_toArray]
      omega) hne hie fun x' h' tk hx' ho hst' hT hsz hk => ?_
    have hxu : x' = u := by
      have e1 : its.toArray[i]? = some x' := hx'
      rw [show its.toArray[i]? = some u by simpa using hu] at e1
      exact (Option.some.inj e1).symm
    subst hxu
    refine ⟨_, rfl, wpAny_letOwnedTupleGo_enum (s := { s with heap := h', toks := tk + 1 }) ho fun h'' he' sb => ?_⟩
    have hT2 : h''.get? s.heap.objs.size = some { cls := .type "tuple", data := .seq #[.int i tk, x'] } := (sb.2 _ (Nat.ne_of_gt hel)).trans hT
    have new : ObjOk X.prog X.w (upd H s.heap.objs.size (.tup [.int (i : Nat), x])) h'' s.heap.objs.size (.tup [.int (i : Nat), x]) :=
      ⟨by show 2 ≤ sizeLine; decide, [.int i tk, x'], .cons ⟨_, rfl⟩ (.cons ru .nil), ⟨_, hT2, rfl, _, rfl⟩⟩
    have I1 : Inv X pins σ (upd H s.heap.objs.size (.tup [.int (i : Nat), x])) { s with heap := h'', toks := tk + 1 } :=
      I.turnedNew (ch := [e, it]) (fun b ob hb q => (sb.2 b (fun z => hb (by simp [z]))).trans (hk b ob (fun z => hb (by simp [z])) (fun z => hb (by simp [z])) q)) hf (Nat.le_refl _) new
    refine ⟨.ref s.heap.objs.size, _, I1, rfl, ⟨_, x, rfl, I.hok.fresh (Nat.le_refl _), rfl, fun ys hy => by rw [I.tuple_inj hy hq]; exact hx⟩, ⟨⟨x', ?_⟩, hst'.1.at fun o q => (sb.2 it (Ne.symm hne)).trans q, hne⟩, fun b hb => ?_⟩
    · have e1 : ((i + 1 : Nat) : Int) = (i : Int) + 1 := by omega
      rw [e1]; exact he'
    · have hb' : b < s.heap.objs.size := by
        have e' : b = e ∨ b = it := by simpa using hb
        rcases e' with z | z
        · rw [z]; exact hel
        · rw [z]; exact hil
      rw [upd_ne (Nat.ne_of_lt hb')]
      exact (hf b hb).1
  done := by
    intro X hP hw hK hc i pins s σ H E I hf st hg
    subst hP hw hK
    obtain ⟨⟨old, he⟩, hit, hne⟩ := st
    obtain ⟨xs, hq, hx⟩ := hg
    obtain ⟨its, rv, p, hz⟩ := I.tuple hq
    obtain ⟨f0, f1, f2, f3, f4, f5⟩ := hf it (by simp)
    have hl := rv.length
    have hhd : X.A.handled = none := I.ok.hd hc
    obtain ⟨o, ho, hcl, hd⟩ := hit
    have fin : ∀ h', Heap.ExtBut it s.heap h' → (none : Option Value) = none ∧ Inv X pins σ H { s with heap := h' } := fun h' eb => ⟨rfl, I.turned (t' := s.toks) (fun b o hb q => eb b o hb q) f0 f1 f3 f4 f5⟩
    have D := Draws.tuple (prog := X.prog) (w := X.w) (A := X.A.in1) hhd it a hat its.toArray
    have hi : i = its.toArray.size := by simp only [List.size_toArray]; omega
    subst hi
    exact wpAny_pyNext_enum_endD D he ⟨⟨o, ho, hcl, hd⟩, p⟩ fin
  self := fun A i s Q E st h => let ⟨⟨_, he⟩, _⟩ := st; wpAny_pyIter_enum he h

def iEnumT (K : PySem.W.Frag) (ta : TA) : TI := fun σ H R => ta σ H fun vs H1 => ∃ a xs, vs = [.ref a] ∧ SqT K H1 a xs ∧ R (IteT K a) H1
theorem pi_enumT {X : Cx} {e : Expr} {ta : TA} {p pos tpos : Pos} {elts : List Expr} {kk : Nat} (hg : Gl X "enumerate") (hm : X.mg "enumerate" = none) (ha : PA X [e] ta) (hs : starEach [e] X.env = [(false, eval e X.env)] := by rfl) :
    PI X (.Tuple elts kk tpos) (.Call (.Name "enumerate" p) [e] [] pos) (iEnumT X.K ta) := by
  refine ⟨fun pins s σ H R I h => ?_⟩
  refine Call_ (ld_blt I hg hm boot_enumerate (PyProof.Rows.callWith_type1 (thn (ha.run pos pins s σ H _ I h) fun us s1 ⟨vs, H1, I1, r1, q1⟩ => ?_) hs rfl))
  obtain ⟨a, xs, ex, hq, q⟩ := q1
  subst ex
  cases r1 with
  | cons r rr =>
    cases rr
    cases r
    obtain ⟨its, rv, p', hz⟩ := I1.tuple hq
    have hlt : a < s1.heap.objs.size := by obtain ⟨_, e, _⟩ := p'; exact Heap.lt_size e
    refine enum_begins1 (begins_tuple a its.toArray) p' fun h' he hit hsz hk => wpAny_pyIter_enum he ?_
    have I2 : Inv X pins σ H1 { s1 with heap := h' } := I1.kept (t' := s1.toks) hk
    refine ⟨s1.heap.objs.size + 1, [s1.heap.objs.size + 1, s1.heap.objs.size], _, _, H1, rfl, I2, turn_enumT a (s1.heap.objs.size + 1) s1.heap.objs.size (Nat.ne_of_lt hlt), ⟨⟨.none, he⟩, ⟨_, hit, rfl, rfl⟩, Nat.succ_ne_self _⟩, fun b hb => ?_, q⟩
    have e' : b = s1.heap.objs.size + 1 ∨ b = s1.heap.objs.size := by simpa using hb
    have hle : s1.heap.objs.size ≤ b := by
      rcases e' with z | z
      · rw [z]; exact Nat.le_add_right _ _
      · rw [z]; exact Nat.le_refl _
    exact I1.fpOk hle (I1.hok.fresh hle)

/-- (.. for i, x in enumerate(a tuple)) -/
def tEnums (K : PySem.W.Frag) (ta : TA) : TS2 := fun σ H R => ta σ H fun vs H1 => ∃ a xs, vs = [.ref a] ∧ SqT K H1 a xs ∧ R (xs.zipIdx.map fun p => (V.int (p.2 : Nat), p.1)) H1
theorem gs_enum {X : Cx} {e : Expr} {ta : TA} {p pos : Pos} (hg : Gl X "enumerate") (hm : X.mg "enumerate" = none) (ha : PA X [e] ta) (hs : starEach [e] X.env = [(false, eval e X.env)] := by rfl) :
    GS2 X (.Call (.Name "enumerate" p) [e] [] pos) (tEnums X.K ta) := by
  refine ⟨fun pins s σ H R I h => ?_⟩
  refine Call_ (ld_blt I hg hm boot_enumerate (PyProof.Rows.callWith_type1 (thn (ha.run pos pins s σ H _ I h) fun us s1 ⟨vs, H1, I1, r1, q1⟩ => ?_) hs rfl))
  obtain ⟨a, xs, ex, hq, q⟩ := q1
  subst ex
  cases r1 with
  | cons r rr =>
    cases rr
    cases r
    obtain ⟨its, rv, p', hz⟩ := I1.tuple hq
    obtain ⟨oa, hoa, hca, _⟩ := id p'
    have hlt : a < s1.heap.objs.size := Heap.lt_size hoa
    have hl := rv.length
    refine enum_begins1 (begins_tuple a its.toArray) p' fun h' he hit hsz hk => wpAny_pyIter_enum he ?_
    refine ⟨s1, H1, _, I1, q, ⟨h', s1.toks, rfl, hk, by rw [hsz]; exact Nat.le_add_right _ _⟩, s1.heap.objs.size + 1, (s1.heap.objs.size + 1) :: [s1.heap.objs.size, a], [s1.heap.objs.size + 1, s1.heap.objs.size],
      (fun i h => (∃ old, IsEnum h (s1.heap.objs.size + 1) s1.heap.objs.size (i : Int) old) ∧ h.IsTupleIter s1.heap.objs.size a i ∧ h.IsTuple a its.toArray),
      (fun i T h => (∃ x, IsEnumOut h (s1.heap.objs.size + 1) s1.heap.objs.size ((i : Int) + 1) x T) ∧ (h.IsTupleIter s1.heap.objs.size a (i + 1) ∧ h.IsTuple a its.toArray) ∧ T ≠ s1.heap.objs.size + 1 ∧ T ≠ s1.heap.objs.size), rfl, fun A' hA => ?_, ⟨⟨.none, he⟩, ⟨_, hit, rfl, rfl⟩, Heap.IsTuple.at p' fun o e => hk _ o e⟩, fun b hb => ?_, fun b hb => ?_⟩
    · have W := (WalksT.enumerateD (Draws.tuple (prog := X.prog) (w := X.w) (A := A'.in1) hA s1.heap.objs.size a (Nat.ne_of_lt hlt) its.toArray) (s1.heap.objs.size + 1) (Nat.succ_ne_self _) (fun z => by
          rcases List.mem_cons.mp z with z | z
          · exact Nat.succ_ne_self _ z
          · have z' := List.mem_singleton.mp z
            exact Nat.lt_irrefl _ (Nat.lt_trans (Nat.lt_succ_self _) (z' ▸ hlt))) List.mem_cons_self).toU
      have e : its.toArray.size = (xs.zipIdx.map fun p => ((V.int (p.2 : Nat), p.1) : V × V)).length := by simp [hl]
      rw [← e]
      exact { W with item := fun i s Q E hi st hQ => W.item i s Q E hi st fun T vs' h' tk hvv => hQ T vs' h' tk (by
          obtain ⟨t, x, hx, rfl⟩ := hvv
          have hi' : i < xs.length := by
            have := hi
            simp only [List.size_toArray] at this
            omega
          obtain ⟨u, hu, ru⟩ := Vals.get rv (List.getElem?_eq_getElem hi')
          have e2 : its[i]? = some x := by simpa using hx
          rw [hu] at e2
          cases e2
          exact ⟨_, _, V.int (i : Nat), xs[i], rfl, by simp [hi'], ⟨t, rfl⟩, ru⟩) }
    · rcases List.mem_cons.mp hb with z | z
      · exact ⟨_, by rw [z]; exact he, by simp⟩
      · rcases List.mem_cons.mp z with z | z
        · exact ⟨_, by rw [z]; exact hit, by simp⟩
        · rw [List.mem_singleton.mp z]
          exact ⟨oa, hk _ _ hoa, by rw [hca]; simp⟩
    · rcases List.mem_cons.mp hb with z | z
      · rw [z]; exact Nat.le_add_right _ _
      · rw [List.mem_singleton.mp z]; exact Nat.le_refl _
/-- (.. for x in range(n)) -/
def tRng1 (ta : TA) : TS1 := fun σ H R => ta σ H fun vs H1 => ∃ n : Nat, vs = [.int (n : Int)] ∧ n < 2 ^ 62 ∧ R ((List.range n).map fun j : Nat => V.int (j : Int)) H1
theorem gs_range1 {X : Cx} {e : Expr} {ta : TA} {p pos : Pos} (hg : Gl X "range") (hm : X.mg "range" = none) (ha : PA X [e] ta) (hs : starEach [e] X.env = [(false, eval e X.env)] := by rfl) :
    GS1 X (.Call (.Name "range" p) [e] [] pos) (tRng1 ta) := by
  refine ⟨fun pins s σ H R I h => ?_⟩
  refine Call_ (ld_blt I hg hm boot_range (PyProof.Rows.callWith_type1 (thn (ha.run pos pins s σ H _ I h) fun us s1 ⟨vs, H1, I1, r1, q1⟩ => ?_) hs rfl))
  obtain ⟨n, ex, hn, q⟩ := q1
  subst ex
  cases r1 with
  | cons r rr =>
    cases rr
    obtain ⟨t, rfl⟩ := r
    refine call_range_1 ?_
    refine wpAny_pyIter_range (IsRange.new ..) (small_one (by decide) (by decide) (by omega) (by omega)) ?_
    have I1 : Inv X pins σ H1 { s1 with heap := s1.heap.push { cls := .type "range", data := .fields #[.int 0 s1.toks, .int (n : Int) t, .int 1 (s1.toks + 1)] }, toks := s1.toks + 1 + 1 } := I1.kept fun b o e => Heap.get?_push_of_some _ e
    show ∃ s0, _
    generalize hg : ({ s1 with heap := s1.heap.push { cls := .type "range", data := .fields #[.int 0 s1.toks, .int (n : Int) t, .int 1 (s1.toks + 1)] }, toks := s1.toks + 1 + 1 } : Shared) = sg at I1 ⊢
    refine ⟨sg, H1, _, I1, q, grew_push, sg.heap.objs.size, [sg.heap.objs.size], [sg.heap.objs.size], (fun i h => IsRangeIter h sg.heap.objs.size (0 + (i : Nat) * 1) ((n : Int) - (i : Nat)) 1), rfl, fun A' hA => ?_, ?_, fun b hb => ?_, fun b hb => by rw [List.mem_singleton.mp hb]; exact Nat.le_refl _⟩
    · have W := Walks.range (prog := X.prog) (w := X.w) hA sg.heap.objs.size 0 1 n
      have e : n = ((List.range n).map fun j : Nat => V.int (j : Int)).length := by simp
      rw [← e]
      exact { W with item := fun i s Q E hi st hQ => W.item i s Q E hi st fun v h' tk hv => hQ v h' tk (by
          obtain ⟨t', rfl⟩ := hv
          exact ⟨V.int (i : Int), by simp [hi], ⟨t', by simp⟩⟩) }
    · have e2 : ((n : Int)) - ((0 : Nat) : Int) = Builtin.Range.rangeSize 0 n 1 := by rw [rangeSize_one]; split <;> omega
      show IsRangeIter _ _ (0 + ((0 : Nat) : Int) * 1) _ 1
      rw [e2]
      exact Heap.get?_push_size _ rfl
    · rw [List.mem_singleton.mp hb]
      exact ⟨_, Heap.get?_push_size _ rfl, by simp⟩
end G9
set_option Elab.async false
set_option linter.all false
set_option maxRecDepth 100000
set_option maxHeartbeats 2000000
namespace G9
open PySem PySem.Spec PyProof.Rows L2 GxR
section
variable {X : Cx}
/-- what a generator gives: the reading's ends -/
def tGen1 (P : Addr) (t : TS1) (tt : GB) (te : GV) (R : L2.St → List V → Hp → VK → Prop) : TE := fun σ H Q => t σ H fun vs H1 => TabG H1 P ∧ ∃ (pz : V → Bool) (F : V → V), (∀ x ∈ vs, tt [x] σ H1 (pz x)) ∧ (∀ x ∈ vs, pz x = true → te [x] σ H1 (F x)) ∧ R σ ((vs.filter pz).map F) H1 Q
def tGen1i (P : Addr) (t : TS1) (tt : GB) (te : GV) (R : L2.St → List V → Hp → VK → Prop) : TE := fun σ H Q => t σ H fun vs H1 => TabG H1 P ∧ ∃ (pz : Nat → Bool) (F : Nat → V), (∀ i x, vs[i]? = some x → tt [x] σ H1 (pz i)) ∧ (∀ i x, vs[i]? = some x → pz i = true → te [x] σ H1 (F i)) ∧ R σ (((List.range vs.length).filter pz).map F) H1 Q
def tGen2 (P : Addr) (t : TS2) (tt : GB) (te : GV) (R : L2.St → List V → Hp → VK → Prop) : TE := fun σ H Q => t σ H fun vs H1 => TabG H1 P ∧ ∃ (pz : V × V → Bool) (F : V × V → V), (∀ x ∈ vs, tt [x.1, x.2] σ H1 (pz x)) ∧ (∀ x ∈ vs, pz x = true → te [x.1, x.2] σ H1 (F x)) ∧ R σ ((vs.filter pz).map F) H1 Q
/-- a call f(g) of a generator: what it makes of what comes -/
def Eats (X : Cx) (f : Value) (R : Addr → L2.St → List V → Hp → VK → Prop) : Prop := ∀ (pins : List (Addr × Obj)) (σ : L2.St) (H1 : Hp) (P : Addr) (L : List V) (g : Addr) (s5 : Shared) (Q : VK),
  Ready X pins σ H1 P L g s5 → R P σ L H1 Q → wpAny (model X.prog X.w) X.A (call f [.ref g]) (EP X pins σ Q) X.xe s5
/-- tuple(g) -/
def rTup (P : Addr) : L2.St → List V → Hp → VK → Prop := fun _ L H1 Q => L.length ≤ sizeLine ∧ ∀ H2 l, Tabbed P H1 H2 → H2 l = none → Q (.ref l) (upd H2 l (.tup L))
theorem vals_of_get : ∀ {xs : List V} {us : List Value}, us.length = xs.length → (∀ (j : Nat) (u : Value), us[j]? = some u → ∃ x, xs[j]? = some x ∧ RelV x u) → Vals xs us
  | [], [], _, _ => .nil
  | x :: xs, u :: us, h, k => by
    obtain ⟨x', e, r⟩ := k 0 u rfl
    cases e
    exact .cons r (vals_of_get (by simpa using h) fun j u e => k (j + 1) u e)
theorem eat_tuple : Eats X (.type "tuple") rTup := by
  intro pins σ H1 P L g s5 Q hR q
  obtain ⟨hz, q⟩ := q
  obtain ⟨fp, wr, G, Fi, St, W, hst, hF, hT, hfp, hg, hI⟩ := hR
  refine call_tuple_gen (hsz := hz) W.in4_3 hT hst hfp hg fun s' acc hm hacc => ?_
  obtain ⟨H2, hTb, J⟩ := hI s' hm
  have rv : Vals L acc.toList := vals_of_get (by simp [hacc.1]) fun j u e => hF j u (hacc.2 j u (by simpa using e))
  have J2 : Inv X pins σ (upd H2 s'.heap.objs.size (.tup L)) { s' with heap := s'.heap.push { cls := .type "tuple", data := .seq acc } } :=
    J.laid (t' := s'.toks) (fun b o e => Heap.get?_push_of_some _ e) (Nat.le_refl _) ⟨hz, acc.toList, rv, by simpa using IsTup.new s'.heap acc⟩
  exact ⟨.ref s'.heap.objs.size, _, J2, rfl, q H2 _ hTb (J.hok.fresh (Nat.le_refl _))⟩
/-- any(g), all(g) of truths -/
def rAnyG (P : Addr) : L2.St → List V → Hp → VK → Prop := fun _ L H1 Q => ∃ bs : List Bool, L = bs.map V.bl ∧ ∀ H2, Tabbed P H1 H2 → Q (.bl (bs.any id)) H2
def rAllG (P : Addr) : L2.St → List V → Hp → VK → Prop := fun _ L H1 Q => ∃ bs : List Bool, L = bs.map V.bl ∧ ∀ H2, Tabbed P H1 H2 → Q (.bl (bs.all id)) H2
theorem truth_of {Fi : Nat → Value → Prop} {bs : List Bool} {A : Around} (hF : ∀ j y, Fi j y → ∃ x, (bs.map V.bl)[j]? = some x ∧ RelV x y) : TruthOf X.prog X.w A Fi (fun j => bs.getD j false) := by
  intro j v s Q E hv hQ
  obtain ⟨x, hx, r⟩ := hF j v hv
  rw [List.getElem?_map] at hx
  cases e : bs[j]? with
  | none => rw [e] at hx; cases hx
  | some b =>
    rw [e] at hx
    cases hx
    cases r
    have hQ2 : Q (bs.getD j false) s := hQ
    rw [List.getD_eq_getElem?_getD, e] at hQ2
    exact wpAny_truthy_bool hQ2
theorem any_getD (bs : List Bool) : (List.range bs.length).any (fun j => bs.getD j false) = bs.any id := by
  rw [Bool.eq_iff_iff, List.any_eq_true, List.any_eq_true]
  constructor
  · intro ⟨j, hj, h⟩
    have hj' := List.mem_range.mp hj
    rw [List.getD_eq_getElem?_getD, List.getElem?_eq_getElem hj'] at h
    exact ⟨bs[j], List.getElem_mem hj', h⟩
  · intro ⟨b, hb, h⟩
    obtain ⟨j, hj, e⟩ := List.getElem_of_mem hb
    refine ⟨j, List.mem_range.mpr hj, ?_⟩
    rw [List.getD_eq_getElem?_getD, List.getElem?_eq_getElem hj, e]
    exact h
theorem all_getD (bs : List Bool) : (List.range bs.length).all (fun j => bs.getD j false) = bs.all id := by
  rw [Bool.eq_iff_iff, List.all_eq_true, List.all_eq_true]
  constructor
  · intro h b hb
    obtain ⟨j, hj, e⟩ := List.getElem_of_mem hb
    have q := h j (List.mem_range.mpr hj)
    rw [List.getD_eq_getElem?_getD, List.getElem?_eq_getElem hj, e] at q
    exact q
  · intro h j hj
    have hj' := List.mem_range.mp hj
    rw [List.getD_eq_getElem?_getD, List.getElem?_eq_getElem hj']
    exact h _ (List.getElem_mem hj')
theorem eat_any : Eats X (.builtin "any") rAnyG := by
  intro pins σ H1 P L g s5 Q hR q
  obtain ⟨bs, rfl, q⟩ := q
  obtain ⟨fp, wr, G, Fi, St, W, hst, hF, hT, hfp, hg, hI⟩ := hR
  refine call_any_walkS (W.in4_1.self 0 _ _ _ hst ⟨g, fp, wr, G, _, Fi, St, _, rfl, W.in4_1, hst, truth_of hF, fun s' hmv => ?_⟩)
  obtain ⟨H2, hTb, J⟩ := hI s' hmv
  refine ⟨.bl _, H2, J, rfl, ?_⟩
  rw [List.length_map, any_getD]
  exact q H2 hTb
theorem eat_all : Eats X (.builtin "all") rAllG := by
  intro pins σ H1 P L g s5 Q hR q
  obtain ⟨bs, rfl, q⟩ := q
  obtain ⟨fp, wr, G, Fi, St, W, hst, hF, hT, hfp, hg, hI⟩ := hR
  refine call_all_walkS (W.in4_1.self 0 _ _ _ hst ⟨g, fp, wr, G, _, Fi, St, _, rfl, W.in4_1, hst, truth_of hF, fun s' hmv => ?_⟩)
  obtain ⟨H2, hTb, J⟩ := hI s' hmv
  refine ⟨.bl _, H2, J, rfl, ?_⟩
  rw [List.length_map, all_getD]
  exact q H2 hTb

variable {c P : Addr} {elt iter : Expr} {ifs : List Expr} {x xa xb : Str} {px pa pb pt p pos gpos : Pos} {kt : Nat} {scope : Scope} {t1 : TS1} {t2 : TS2} {tt : GB} {te : GV} {k : Nat} {f : Str} {R : Addr → L2.St → List V → Hp → VK → Prop}
/-- f(.. for x in ..), f a built-in class -/
theorem pe_g1T {T : String} (E : Eats X (.type T) R) (hr : Room k X.A) (hg : Gl X f) (hm : X.mg f = none) (hb : bootBuiltins f = some (.type T)) (TB : TabB X.base X.mg c P) (hcode : X.env.code = .ref c) (S : GenN X.env.scope scope [x]) (hi : GS1 X iter t1) (hts : GTs X P scope [x] ifs tt) (hel : GE X P scope [x] elt te)
    (hs : ∀ v, genFold iter X.env v = pure v := by intro _; rfl) (hn : f ≠ "__name__" := by decide +kernel) (hd : (f == ("__debug__" : Str)) = false := by decide +kernel)
    (he : starEach [.GeneratorExp elt [⟨.Name x px, iter, ifs, 0⟩] scope gpos] X.env = (false, eval (.GeneratorExp elt [⟨.Name x px, iter, ifs, 0⟩] scope gpos) X.env) :: starEach [] X.env := by rfl) :
    PE X (.Call (.Name f p) [.GeneratorExp elt [⟨.Name x px, iter, ifs, 0⟩] scope gpos] [] pos) (tGen1 P t1 tt te (R P)) := by
  refine ⟨fun pins s σ H Q I h => ?_⟩
  refine Call_ (ld_blt (hn := hn) (hd := hd) I hg hm hb (PyProof.Rows.callWith_type1 ?_ he (by rfl)))
  rw [he]
  show wpAny _ _ (spliced ((false, eval (.GeneratorExp elt [⟨.Name x px, iter, ifs, 0⟩] scope gpos) X.env) :: backTo pos (starEach [] X.env))) _ _ s
  refine Calls.spliced_cons (gen1 (R := fun L H1 => R P σ L H1 Q) hr TB hcode S hi hts hel hs I h fun L H1 g s5 hR hG => Calls.spliced_nil (E pins σ H1 P L g s5 Q hG hR))
theorem pe_g1Ti {T : String} (E : Eats X (.type T) R) (hr : Room k X.A) (hg : Gl X f) (hm : X.mg f = none) (hb : bootBuiltins f = some (.type T)) (TB : TabB X.base X.mg c P) (hcode : X.env.code = .ref c) (S : GenN X.env.scope scope [x]) (hi : GS1 X iter t1) (hts : GTs X P scope [x] ifs tt) (hel : GE X P scope [x] elt te)
    (hs : ∀ v, genFold iter X.env v = pure v := by intro _; rfl) (hn : f ≠ "__name__" := by decide +kernel) (hd : (f == ("__debug__" : Str)) = false := by decide +kernel)
    (he : starEach [.GeneratorExp elt [⟨.Name x px, iter, ifs, 0⟩] scope gpos] X.env = (false, eval (.GeneratorExp elt [⟨.Name x px, iter, ifs, 0⟩] scope gpos) X.env) :: starEach [] X.env := by rfl) :
    PE X (.Call (.Name f p) [.GeneratorExp elt [⟨.Name x px, iter, ifs, 0⟩] scope gpos] [] pos) (tGen1i P t1 tt te (R P)) := by
  refine ⟨fun pins s σ H Q I h => ?_⟩
  refine Call_ (ld_blt (hn := hn) (hd := hd) I hg hm hb (PyProof.Rows.callWith_type1 ?_ he (by rfl)))
  rw [he]
  show wpAny _ _ (spliced ((false, eval (.GeneratorExp elt [⟨.Name x px, iter, ifs, 0⟩] scope gpos) X.env) :: backTo pos (starEach [] X.env))) _ _ s
  refine Calls.spliced_cons (gen1i (R := fun L H1 => R P σ L H1 Q) hr TB hcode S hi hts hel hs I h fun L H1 g s5 hR hG => Calls.spliced_nil (E pins σ H1 P L g s5 Q hG hR))
theorem pe_g2T {T : String} (E : Eats X (.type T) R) (hr : Room k X.A) (hg : Gl X f) (hm : X.mg f = none) (hb : bootBuiltins f = some (.type T)) (TB : TabB X.base X.mg c P) (hcode : X.env.code = .ref c) (S : GenN X.env.scope scope [xa, xb]) (hi : GS2 X iter t2) (hts : GTs X P scope [xa, xb] ifs tt) (hel : GE X P scope [xa, xb] elt te) (hab : xa ≠ xb)
    (hs : ∀ v, genFold iter X.env v = pure v := by intro _; rfl) (hn : f ≠ "__name__" := by decide +kernel) (hd : (f == ("__debug__" : Str)) = false := by decide +kernel)
    (he : starEach [.GeneratorExp elt [⟨.Tuple [.Name xa pa, .Name xb pb] kt pt, iter, ifs, 0⟩] scope gpos] X.env = (false, eval (.GeneratorExp elt [⟨.Tuple [.Name xa pa, .Name xb pb] kt pt, iter, ifs, 0⟩] scope gpos) X.env) :: starEach [] X.env := by rfl) :
    PE X (.Call (.Name f p) [.GeneratorExp elt [⟨.Tuple [.Name xa pa, .Name xb pb] kt pt, iter, ifs, 0⟩] scope gpos] [] pos) (tGen2 P t2 tt te (R P)) := by
  refine ⟨fun pins s σ H Q I h => ?_⟩
  refine Call_ (ld_blt (hn := hn) (hd := hd) I hg hm hb (PyProof.Rows.callWith_type1 ?_ he (by rfl)))
  rw [he]
  show wpAny _ _ (spliced ((false, eval (.GeneratorExp elt [⟨.Tuple [.Name xa pa, .Name xb pb] kt pt, iter, ifs, 0⟩] scope gpos) X.env) :: backTo pos (starEach [] X.env))) _ _ s
  refine Calls.spliced_cons (gen2 (R := fun L H1 => R P σ L H1 Q) hr TB hcode S hi hts hel hab hs I h fun L H1 g s5 hR hG => Calls.spliced_nil (E pins σ H1 P L g s5 Q hG hR))
/-- f a built-in function -/
theorem pe_g1B {T : String} (E : Eats X (.builtin T) R) (hr : Room k X.A) (hg : Gl X f) (hm : X.mg f = none) (hb : bootBuiltins f = some (.builtin T)) (TB : TabB X.base X.mg c P) (hcode : X.env.code = .ref c) (S : GenN X.env.scope scope [x]) (hi : GS1 X iter t1) (hts : GTs X P scope [x] ifs tt) (hel : GE X P scope [x] elt te)
    (hs : ∀ v, genFold iter X.env v = pure v := by intro _; rfl) (hn : f ≠ "__name__" := by decide +kernel) (hd : (f == ("__debug__" : Str)) = false := by decide +kernel)
    (he : starEach [.GeneratorExp elt [⟨.Name x px, iter, ifs, 0⟩] scope gpos] X.env = (false, eval (.GeneratorExp elt [⟨.Name x px, iter, ifs, 0⟩] scope gpos) X.env) :: starEach [] X.env := by rfl) :
    PE X (.Call (.Name f p) [.GeneratorExp elt [⟨.Name x px, iter, ifs, 0⟩] scope gpos] [] pos) (tGen1 P t1 tt te (R P)) := by
  refine ⟨fun pins s σ H Q I h => ?_⟩
  refine Call_ (ld_blt (hn := hn) (hd := hd) I hg hm hb (PyProof.Rows.callWith_builtin1 ?_ he (by rfl)))
  rw [he]
  show wpAny _ _ (spliced ((false, eval (.GeneratorExp elt [⟨.Name x px, iter, ifs, 0⟩] scope gpos) X.env) :: backTo pos (starEach [] X.env))) _ _ s
  refine Calls.spliced_cons (gen1 (R := fun L H1 => R P σ L H1 Q) hr TB hcode S hi hts hel hs I h fun L H1 g s5 hR hG => Calls.spliced_nil (E pins σ H1 P L g s5 Q hG hR))
theorem pe_g1Bi {T : String} (E : Eats X (.builtin T) R) (hr : Room k X.A) (hg : Gl X f) (hm : X.mg f = none) (hb : bootBuiltins f = some (.builtin T)) (TB : TabB X.base X.mg c P) (hcode : X.env.code = .ref c) (S : GenN X.env.scope scope [x]) (hi : GS1 X iter t1) (hts : GTs X P scope [x] ifs tt) (hel : GE X P scope [x] elt te)
    (hs : ∀ v, genFold iter X.env v = pure v := by intro _; rfl) (hn : f ≠ "__name__" := by decide +kernel) (hd : (f == ("__debug__" : Str)) = false := by decide +kernel)
    (he : starEach [.GeneratorExp elt [⟨.Name x px, iter, ifs, 0⟩] scope gpos] X.env = (false, eval (.GeneratorExp elt [⟨.Name x px, iter, ifs, 0⟩] scope gpos) X.env) :: starEach [] X.env := by rfl) :
    PE X (.Call (.Name f p) [.GeneratorExp elt [⟨.Name x px, iter, ifs, 0⟩] scope gpos] [] pos) (tGen1i P t1 tt te (R P)) := by
  refine ⟨fun pins s σ H Q I h => ?_⟩
  refine Call_ (ld_blt (hn := hn) (hd := hd) I hg hm hb (PyProof.Rows.callWith_builtin1 ?_ he (by rfl)))
  rw [he]
  show wpAny _ _ (spliced ((false, eval (.GeneratorExp elt [⟨.Name x px, iter, ifs, 0⟩] scope gpos) X.env) :: backTo pos (starEach [] X.env))) _ _ s
  refine Calls.spliced_cons (gen1i (R := fun L H1 => R P σ L H1 Q) hr TB hcode S hi hts hel hs I h fun L H1 g s5 hR hG => Calls.spliced_nil (E pins σ H1 P L g s5 Q hG hR))
theorem pe_g2B {T : String} (E : Eats X (.builtin T) R) (hr : Room k X.A) (hg : Gl X f) (hm : X.mg f = none) (hb : bootBuiltins f = some (.builtin T)) (TB : TabB X.base X.mg c P) (hcode : X.env.code = .ref c) (S : GenN X.env.scope scope [xa, xb]) (hi : GS2 X iter t2) (hts : GTs X P scope [xa, xb] ifs tt) (hel : GE X P scope [xa, xb] elt te) (hab : xa ≠ xb)
    (hs : ∀ v, genFold iter X.env v = pure v := by intro _; rfl) (hn : f ≠ "__name__" := by decide +kernel) (hd : (f == ("__debug__" : Str)) = false := by decide +kernel)
    (he : starEach [.GeneratorExp elt [⟨.Tuple [.Name xa pa, .Name xb pb] kt pt, iter, ifs, 0⟩] scope gpos] X.env = (false, eval (.GeneratorExp elt [⟨.Tuple [.Name xa pa, .Name xb pb] kt pt, iter, ifs, 0⟩] scope gpos) X.env) :: starEach [] X.env := by rfl) :
    PE X (.Call (.Name f p) [.GeneratorExp elt [⟨.Tuple [.Name xa pa, .Name xb pb] kt pt, iter, ifs, 0⟩] scope gpos] [] pos) (tGen2 P t2 tt te (R P)) := by
  refine ⟨fun pins s σ H Q I h => ?_⟩
  refine Call_ (ld_blt (hn := hn) (hd := hd) I hg hm hb (PyProof.Rows.callWith_builtin1 ?_ he (by rfl)))
  rw [he]
  show wpAny _ _ (spliced ((false, eval (.GeneratorExp elt [⟨.Tuple [.Name xa pa, .Name xb pb] kt pt, iter, ifs, 0⟩] scope gpos) X.env) :: backTo pos (starEach [] X.env))) _ _ s
  refine Calls.spliced_cons (gen2 (R := fun L H1 => R P σ L H1 Q) hr TB hcode S hi hts hel hab hs I h fun L H1 g s5 hR hG => Calls.spliced_nil (E pins σ H1 P L g s5 Q hG hR))
end
end G9
set_option Elab.async false
set_option linter.all false
set_option maxRecDepth 100000
set_option maxHeartbeats 2000000
namespace G9
open PySem PySem.Spec PyProof.Rows L2 GxR

/-! ### defs, called where no repr is under way -/
theorem guards_deeper (A : Around) (env : Env) : (A.deeper env).guards = A.guards := by
  obtain ⟨a, b, c, d, e⟩ := A
  first | rfl | simp [Around.deeper]

structure FnG (P : Program) (w : World) (K : PySem.W.Frag) (mg : Str → Option Value) (base : Heap) (k : Nat) (f : Addr) (fd : FuncData) (ps : List Str) (sp : Sp) : Prop where
  len : ∀ vs H Q E, sp vs H Q E → vs.length = ps.length
  run : ∀ (A : Around) (outer : List Env) (s : Shared) (H : Hp) (args : Args) (us : List Value) (vs : List V) (Q : VK), A.guards = some [] → Room k A → Env0 P w K mg base A outer s H → BindsTo s fd args (ps.zip us) → Vals vs us → sp vs H Q E0 →
    codeAny (model P w) A (.call (.ref f) args) (CR CX0 outer P w H s Q E0) s
theorem FnG.mono {P w K mg base j k f fd ps sp} (F : FnG P w K mg base j f fd ps sp) (h : j ≤ k) : FnG P w K mg base k f fd ps sp := ⟨F.len, fun A outer s H args us vs Q hg hr => F.run A outer s H args us vs Q hg (hr.mono h)⟩

/-- a def of the text, its code object at c -/
structure FunC (K : PySem.W.Frag) (x qual : Str) (st : Stmt) (f : Addr) (fd : FuncData) (c : Addr) : Prop where
  ex : ∃ (oc : Value) (od : Option Addr) (kV doc pm : Value) (an : Option Addr) (ct : Value) (osl : Array (Option Value)),
    fd = PySem.W.fnOf x qual (defArgs st) (defBody st) (defScope st) .none kV doc pm an (.ref c) ct ∧ K.lookup f = some ⟨oc, od, .func fd, osl⟩ ∧ PySem.W.codeIn K (.ref c) qual = true
  kp : PySem.W.keepIn K (.ref f) = true
section
variable {P : Program} {w : World} {K : PySem.W.Frag} {mg : Str → Option Value} {base : Heap}
theorem FunC.fn {x qual : Str} {st : Stmt} {f c : Addr} {fd : FuncData} (F : FunC K x qual st f fd c) : Fun K x qual st f fd := by
  obtain ⟨oc, od, kV, doc, pm, an, ct, osl, h1, h2, h3⟩ := F.ex
  exact ⟨⟨oc, od, kV, doc, pm, an, .ref c, ct, osl, h1, h2, h3⟩, F.kp⟩
/-- a def keeps its promise: by its body's term and that term's reading -/
theorem FunC.ok {x qual : Str} {st : Stmt} {f c : Addr} {fd : FuncData} {N ps : List Str} {k : Nat} {sp : Sp} (F : FunC K x qual st f fd c) (S : FnScope N ps (defScope st)) (len : ∀ vs H Q E, sp vs H Q E → vs.length = ps.length)
    (hbody : ∀ (A : Around) (outer : List Env) (s : Shared) (H : Hp) (vs : List V) (Q : VK), A.guards = some [] → Room k (A.deeper (envOfC qual (defScope st) s.heap.objs.size f (.ref c))) → sp vs H Q E0 →
      ∃ t, PSs (cxOf CX0 P w K mg base N qual (defScope st) f (.ref c) A outer s H E0).nox (defBody st) t ∧ t { nx := fun _ H' => Q .non H', rt := Q } (start N vs) H) : FnG P w K mg base (k + 1) f fd ps sp := by
  obtain ⟨oc, od, kV, doc, pm, an, ct, osl, rfl, lk, hcd⟩ := F.ex
  refine ⟨len, fun A outer s H args us vs Q hg hr e0 hb r hsp => ?_⟩
  have hl := len _ _ _ _ hsp
  have KX : K.In s.heap := e0.mod.kin.keeps fun b o e => (e0.bs b o e).1
  have lim : s.heap.NoLimit := e0.mod.nolimit.keeps fun b o e => (e0.bs b o e).1
  have hkind : ∀ y ∈ ps.zip us, (defScope st).names.lookup y.1 = some .local ∨ ((defScope st).names.lookup y.1 = some .cell ∧ ((cellsFrom (s.heap.objs.size + 1) (defScope st).names []).lookup y.1).isSome = true) := by
    rintro ⟨n, v⟩ hy
    exact (S.par n (List.of_mem_zip hy).1).imp id fun q => ⟨q, PySem.W.cellsFrom_some _ _ _ (.inl q)⟩
  refine codeAny_call_function hr.depth (KX _ _ lk) rfl S.co S.gen rfl (PySem.W.codeRec_of KX hcd) (hb _ _ _ _ ?_)
  refine wpAny_newFunctionEnv_cells S.kind hkind fun env he s1 x => ?_
  subst he
  refine ⟨lim.keeps x.toInCall.keep, codeAny_func ?_⟩
  obtain ⟨t, ht0, hq⟩ := hbody A outer s H vs Q hg (hr.deeper _) hsp
  have ht := ht0.nox
  have I := inv_start (CX := CX0) (P := P) (w := w) (mg := mg) (qual := qual) (f := f) (cd := .ref c) (E := E0) S hr.hd e0 hl r x
  refine wpAny_mono (ht.run [] s1 (start N vs) H _ I hq) (fun fl s' hs => ?_) fun e s' hs => hs
  cases fl with
  | ret u => obtain ⟨v, σ', H', J, rv, q⟩ := hs; exact ⟨v, H', J.os, J.bare, J.base, J.hok, rv, q⟩
  | next => obtain ⟨σ', H', J, q⟩ := hs; exact ⟨V.non, H', J.os, J.bare, J.base, J.hok, rfl, q⟩
  | brk => obtain ⟨_, _, _, q⟩ := hs; exact False.elim q
  | cont => obtain ⟨_, _, _, q⟩ := hs; exact False.elim q
end
section
variable {X : Cx} {k : Nat} {f : Addr} {fd : FuncData} {ps ks : List Str} {sp : Sp} {x : Str} {p pos : Pos} {e : Expr} {es : List Expr} {kws : List Keyword} {t tk : TA} {g : List Value → List Value → List Value} {gV : List V → List V → List V}
def tGo (sp : Sp) (t : TA) : TE := fun σ H Q => t σ H fun vs H1 => sp vs H1 Q E0
theorem end_ok {pins σ H s} {Q : VK} {r : Result} {s' : Shared} (I : Inv X pins σ H s) (h : CR CX0 X.stack X.prog X.w H s Q E0 r s') : wants (EP X pins σ Q) X.xe r s' := by
  cases r with
  | error e => exact False.elim h
  | ok fl =>
    cases fl with
    | ret u => exact I.after h
    | next => exact False.elim h
    | brk => exact False.elim h
    | cont => exact False.elim h
/-- f(e, ..) -/
theorem pg_call (F : FnG X.prog X.w X.K X.mg X.base k f fd ps sp) (hgu : X.A.guards = some []) (hr : Room k X.A) (hg : Gl X x) (hm : X.mg x = some (.ref f)) (hk : PySem.W.keepIn X.K (.ref f) = true) (hb : Binds X.K fd ps [])
    (ha : PA X (e :: es) t) (hdb : (x == ("__debug__" : Str)) = false := by decide +kernel) (he : starEach (e :: es) X.env = (false, eval e X.env) :: starEach es X.env := by rfl) (hpl : (backTo pos (starEach es X.env)).any (·.1) = false := by rfl) :
    PE X (.Call (.Name x p) (e :: es) [] pos) (tGo sp t) := by
  refine ⟨fun pins s σ H Q I h => ?_⟩
  refine wpAny_Call_Name_kw (ld_glob I hg hm ?_ hdb)
  refine PySem.W.callWith_K (h₀ := X.base) I.ok.mod.kin hk (thn (ha.run pos pins s σ H _ I h) fun us s1 ⟨vs, H1, I1, r, q⟩ => ⟨I1.kIn, ?_⟩) he hpl
  have q : sp vs H1 Q E0 := q
  have hl : (us ++ []).length = ps.length := by rw [List.append_nil, ← r.length]; exact F.len _ _ _ _ q
  exact wpAny_call (codeAny_mono (F.run X.A X.stack s1 H1 ⟨us, []⟩ (us ++ []) vs Q hgu hr I1.env0 (hb s1 us I1.kIn hl) (by rw [List.append_nil]; exact r) q) fun r' s' hq => end_ok I1 hq)
/-- f(k = e, ..), nothing by position -/
theorem pg_callK (F : FnG X.prog X.w X.K X.mg X.base k f fd ps sp) (hgu : X.A.guards = some []) (hr : Room k X.A) (hg : Gl X x) (hm : X.mg x = some (.ref f)) (hk : PySem.W.keepIn X.K (.ref f) = true) (hb : KBinds X.K fd ps ks g gV)
    (hkw : PK X kws tk) (hall : (backToKw pos (keywordEach kws X.env)).all (·.1.isSome) = true := by rfl) (hks : (backToKw pos (keywordEach kws X.env)).filterMap (·.1) = ks := by rfl) (hdb : (x == ("__debug__" : Str)) = false := by decide +kernel)
    (hpl : ((backTo pos (starEach [] X.env)).any (·.1) || (backToKw pos (keywordEach kws X.env)).any (·.1.isNone)) = false := by rfl) :
    PE X (.Call (.Name x p) [] kws pos) (tCallK sp gV E0 tNil tk) := by
  refine ⟨fun pins s σ H Q I h => ?_⟩
  refine wpAny_Call_Name_kw (ld_glob I hg hm ?_ hdb)
  have h' : tk σ H fun zs H2 => sp (gV [] zs) H2 Q E0 := h
  refine PySem.W.callWith_KW0 (h₀ := X.base) I.ok.mod.kin hk hall (thn (hkw.run pos pins s σ H _ I h') fun ws s2 ⟨zs, H2, I2, rz, q2⟩ => ⟨I2.kIn, ?_⟩) hpl
  rw [hks]
  have r2 : Vals (gV [] zs) (g [] ws) := hb.rel .nil rz
  have hl : (g [] ws).length = ps.length := by rw [← r2.length]; exact F.len _ _ _ _ q2
  exact wpAny_call (codeAny_mono (F.run X.A X.stack s2 H2 ⟨[], ks.zip ws⟩ (g [] ws) (gV [] zs) Q hgu hr I2.env0 (hb.to s2 [] ws I2.kIn hl) r2 q2) fun r' s' hq => end_ok I2 hq)
end

/-! ### what stays: all but the tables of code and, at the addresses of S, what may change -/
def Fix : HO → Prop
  | .tup _ => True
  | .frz _ _ => True
  | _ => False
def NoTbl (o : HO) : Prop := ∀ ps, o ≠ .tbl ps
def Ext (S : List Addr) (H H' : Hp) : Prop := (∀ b o, H b = some o → (b ∉ S ∨ Fix o) → NoTbl o → H' b = some o) ∧ ∀ P, TabG H P → TabG H' P
theorem Ext.refl {S : List Addr} (H : Hp) : Ext S H H := ⟨fun _ _ e _ _ => e, fun _ t => t⟩
theorem Ext.trans {S : List Addr} {H H1 H2 : Hp} (a : Ext S H H1) (b : Ext S H1 H2) : Ext S H H2 := ⟨fun c o e n m => b.1 c o (a.1 c o e n m) n m, fun P t => b.2 P (a.2 P t)⟩
theorem Ext.more {S T : List Addr} {H H1 : Hp} (a : Ext S H H1) (h : ∀ b ∈ S, b ∈ T) : Ext T H H1 := ⟨fun c o e n m => a.1 c o e (n.imp (fun z q => z (h c q)) id) m, a.2⟩
theorem Ext.any {T : List Addr} {H H1 : Hp} (a : Ext [] H H1) : Ext T H H1 := a.more fun _ z => by cases z
theorem Ext.new {S : List Addr} {H : Hp} {p : Addr} {o : HO} (h : H p = none) : Ext S H (upd H p o) :=
  ⟨fun b u e _ _ => by rw [upd_ne (ne_of_none e h)]; exact e, fun P ⟨ps, e, r⟩ => ⟨ps, by rw [upd_ne (ne_of_none e h)]; exact e, r⟩⟩
theorem Ext.put {S : List Addr} {H : Hp} {p : Addr} {o o' : HO} (h : H p = some o) (hn : NoTbl o) (hf : ¬ Fix o) (hp : p ∈ S) : Ext S H (upd H p o') := by
  refine ⟨fun b u e n _ => ?_, fun P ⟨ps, e, r⟩ => ⟨ps, ?_, r⟩⟩
  · have hb : b ≠ p := fun z => by
      rcases n with n | n
      · exact n (z ▸ hp)
      · rw [z, h] at e
        cases e
        exact hf n
    rw [upd_ne hb]
    exact e
  · have hb : P ≠ p := fun z => by
      rw [z, h] at e
      cases e
      exact hn ps rfl
    rw [upd_ne hb]
    exact e
theorem Ext.tabbed {S : List Addr} {H H' : Hp} {P : Addr} (T : TabG H P) (t : Tabbed P H H') : Ext S H H' := by
  refine ⟨fun b o e _ n => ?_, fun Q ⟨ps, e, r⟩ => ?_⟩
  · have hb : b ≠ P := fun z => by
      obtain ⟨ps, hP, _⟩ := T
      rw [z, hP] at e
      cases e
      exact n ps rfl
    rw [t.2 b hb]
    exact e
  · by_cases z : Q = P
    · rw [z]; exact t.1
    · exact ⟨ps, by rw [t.2 Q z]; exact e, r⟩
theorem Ext.free {S : List Addr} {H H' : Hp} (x : Ext S H H') {p : Addr} (h : H' p = none) : ∀ b o, H b = some o → (b ∉ S ∨ Fix o) → NoTbl o → b ≠ p := fun b o e n m z => by
  rw [z] at e
  have q := x.1 p o e (z ▸ n) m
  rw [h] at q
  cases q
section
variable {K : PySem.W.Frag} {S : List Addr} {H H' : Hp} {a : Addr} {xs : List V}
theorem Ext.tup (x : Ext S H H') (h : SqT K H a xs) : SqT K H' a xs := by
  rcases h with (h | ⟨o, h⟩) | h
  · exact .inl (.inl (x.1 _ _ h (.inr trivial) (fun _ z => by cases z)))
  · exact .inl (.inr ⟨o, x.1 _ _ h (.inr trivial) (fun _ z => by cases z)⟩)
  · exact .inr h
theorem Ext.lst (x : Ext S H H') (ha : a ∉ S) (h : SqL K H a xs) : SqL K H' a xs := by
  rcases h with (h | ⟨o, h⟩) | h
  · exact .inl (.inl (x.1 _ _ h (.inl ha) (fun _ z => by cases z)))
  · exact .inl (.inr ⟨o, x.1 _ _ h (.inl ha) (fun _ z => by cases z)⟩)
  · exact .inr h
theorem Ext.own (x : Ext S H H') (ha : a ∉ S) {o : HO} (h : H a = some o) (hn : NoTbl o) : H' a = some o := x.1 _ _ h (.inl ha) hn
theorem SqT.new {p : Addr} : SqT K (upd H p (.tup xs)) p xs := .inl (.inl upd_same)
theorem SqL.new {p : Addr} : SqL K (upd H p (.lst xs)) p xs := .inl (.inl upd_same)

/-! ### data: what repr shows -/
mutual
/-- no list within -/
def noL : PyData → Bool
  | .list _ => false
  | .tuple xs => noLs xs
  | .dict _ => false
  | _ => true
def noLs : List PyData → Bool
  | [] => true
  | x :: xs => noL x && noLs xs
end
mutual
theorem Ext.dp (x : Ext S H H') : ∀ (d : PyData) (v : V), noL d = true → Dp K H v d → Dp K H' v d
  | .none, _, _, h => by cases h; exact .non
  | .bool b, _, _, h => by cases h; exact .bl b
  | .int i, _, _, h => by cases h; exact .int i
  | .str z, _, _, h => by cases h; exact .str z
  | .list ds, _, n, _ => by simp [noL] at n
  | .tuple ds, _, n, h => by
    cases h with
    | tup hs ha => exact .tup (x.tup hs) (Ext.dps x ds _ (by simpa [noL] using n) ha)
  | .dict _, _, n, _ => by simp [noL] at n
theorem Ext.dps (x : Ext S H H') : ∀ (ds : List PyData) (vs : List V), noLs ds = true → DpAll K H vs ds → DpAll K H' vs ds
  | [], _, _, h => by cases h; exact .nil
  | d :: ds, _, n, h => by
    simp only [noLs, Bool.and_eq_true] at n
    cases h with
    | cons h1 h2 => exact .cons (Ext.dp x d _ n.1 h1) (Ext.dps x ds _ n.2 h2)
end
mutual
theorem Ext.dp0 (x : Ext [] H H') : ∀ (d : PyData) (v : V), Dp K H v d → Dp K H' v d
  | .none, _, h => by cases h; exact .non
  | .bool b, _, h => by cases h; exact .bl b
  | .int i, _, h => by cases h; exact .int i
  | .str z, _, h => by cases h; exact .str z
  | .list ds, _, h => by
    cases h with
    | lst hs ha => exact .lst (x.lst (by simp) hs) (Ext.dps0 x ds _ ha)
  | .tuple ds, _, h => by
    cases h with
    | tup hs ha => exact .tup (x.tup hs) (Ext.dps0 x ds _ ha)
  | .dict _, _, h => by cases h
theorem Ext.dps0 (x : Ext [] H H') : ∀ (ds : List PyData) (vs : List V), DpAll K H vs ds → DpAll K H' vs ds
  | [], _, h => by cases h; exact .nil
  | d :: ds, _, h => by
    cases h with
    | cons h1 h2 => exact .cons (Ext.dp0 x d _ h1) (Ext.dps0 x ds _ h2)
end
end
mutual
/-- at most so many signs -/
def wt : PyData → Nat
  | .none => 8
  | .bool _ => 8
  | .int _ => 2000
  | .str x => (reprText x).length
  | .list xs => wts xs + 8
  | .tuple xs => wts xs + 8
  | .dict _ => 0
def wts : List PyData → Nat
  | [] => 0
  | x :: xs => wt x + 2 + wts xs
end
end G9
set_option Elab.async false
set_option linter.all false
set_option maxRecDepth 100000
set_option maxHeartbeats 2000000
namespace G9
open PySem PySem.Spec PyProof.Rows L2 GxR

mutual
theorem shown_le : ∀ (d : PyData), d.showable = true → d.hasDict = false → d.shown.length ≤ wt d
  | .none, _, _ => by show (Str.ofString "None").length ≤ 8; decide +kernel
  | .bool b, _, _ => by cases b <;> (simp only [PyData.shown, wt]; decide +kernel)
  | .int i, h, _ => by
    have h' : i.natAbs.log2 < 1920 := by simpa [PyData.showable] using h
    have := int_text_len_1921 h'
    simp only [PyData.shown, wt]
    omega
  | .str x, _, _ => Nat.le_refl _
  | .list xs, h, g => by
    have q := shown_all_le xs (by simpa [PyData.showable] using h) (by simpa [PyData.hasDict] using g)
    simp only [PyData.shown, wt]
    have := listText_len_le (PyData.shownAll xs)
    omega
  | .tuple xs, h, g => by
    have q := shown_all_le xs (by simpa [PyData.showable] using h) (by simpa [PyData.hasDict] using g)
    simp only [PyData.shown, wt]
    have := tupleText_len_le (PyData.shownAll xs)
    omega
  | .dict _, _, g => by simp [PyData.hasDict] at g
theorem shown_all_le : ∀ (xs : List PyData), PyData.showableAll xs = true → PyData.hasDictAll xs = false → ((PyData.shownAll xs).map (·.length)).sum + 2 * (PyData.shownAll xs).length ≤ wts xs
  | [], _, _ => by simp [PyData.shownAll, wts]
  | x :: xs, h, g => by
    simp only [PyData.showableAll, Bool.and_eq_true] at h
    simp only [PyData.hasDictAll, Bool.or_eq_false_iff] at g
    have h1 := shown_le x h.1 g.1
    have h2 := shown_all_le xs h.2 g.2
    simp only [PyData.shownAll, wts, List.map_cons, List.sum_cons, List.length_cons]
    omega
end

/-- may be shown: by at most n signs, no deeper than k -/
structure Shw (d : PyData) (n k : Nat) : Prop where
  s : d.showable = true
  h : d.hasDict = false
  e : d.depth ≤ k
  w : wt d ≤ n
theorem Shw.mono {d n k n' k'} (s : Shw d n k) (h1 : n ≤ n') (h2 : k ≤ k') : Shw d n' k' := ⟨s.s, s.h, Nat.le_trans s.e h2, Nat.le_trans s.w h1⟩
theorem Shw.none : Shw .none 8 0 := ⟨rfl, rfl, by simp [PyData.depth], by simp [wt]⟩
theorem Shw.bool (b : Bool) : Shw (.bool b) 8 0 := ⟨rfl, rfl, by simp [PyData.depth], by simp [wt]⟩
theorem log2_small {i : Int} (h : i.natAbs < 2 ^ 64) : i.natAbs.log2 < 1920 := by
  by_cases hz : i.natAbs = 0
  · rw [hz]; decide
  · exact (Nat.log2_lt hz).mpr (Nat.lt_of_lt_of_le h (Nat.pow_le_pow_right (by decide : 0 < 2) (by decide : 64 ≤ 1920)))
theorem Shw.int {i : Int} (h : i.natAbs < 2 ^ 64) : Shw (.int i) 2000 0 := ⟨by simp only [PyData.showable, decide_eq_true_eq]; exact log2_small h, rfl, by simp [PyData.depth], by simp [wt]⟩
theorem showAll {xs : List PyData} {n k : Nat} (h : ∀ x ∈ xs, Shw x n k) : PyData.showableAll xs = true ∧ PyData.hasDictAll xs = false ∧ PyData.depthAll xs ≤ k ∧ wts xs ≤ xs.length * (n + 2) := by
  induction xs with
  | nil => exact ⟨rfl, rfl, by simp [PyData.depthAll], by simp [wts]⟩
  | cons x xs ih =>
    obtain ⟨a, b, c, d⟩ := ih fun y hy => h y (List.mem_cons_of_mem _ hy)
    have q := h x List.mem_cons_self
    refine ⟨by simp [PyData.showableAll, q.s, a], by simp [PyData.hasDictAll, q.h, b], ?_, ?_⟩
    · have := q.e
      simp only [PyData.depthAll]
      omega
    · have := q.w
      simp only [wts, List.length_cons, Nat.add_mul, Nat.one_mul]
      omega
theorem Shw.tuple {xs : List PyData} {n k m : Nat} (h : ∀ x ∈ xs, Shw x n k) (hm : xs.length ≤ m) : Shw (.tuple xs) (m * (n + 2) + 8) (k + 1) := by
  obtain ⟨a, b, c, d⟩ := showAll h
  refine ⟨by simpa [PyData.showable] using a, by simpa [PyData.hasDict] using b, ?_, ?_⟩
  · simp only [PyData.depth]; omega
  · have : xs.length * (n + 2) ≤ m * (n + 2) := Nat.mul_le_mul_right _ hm
    simp only [wt]; omega
theorem Shw.list {xs : List PyData} {n k m : Nat} (h : ∀ x ∈ xs, Shw x n k) (hm : xs.length ≤ m) : Shw (.list xs) (m * (n + 2) + 8) (k + 1) := by
  obtain ⟨a, b, c, d⟩ := showAll h
  refine ⟨by simpa [PyData.showable] using a, by simpa [PyData.hasDict] using b, ?_, ?_⟩
  · simp only [PyData.depth]; omega
  · have : xs.length * (n + 2) ≤ m * (n + 2) := Nat.mul_le_mul_right _ hm
    simp only [wt]; omega

section
variable {X : Cx}
/-- repr of data -/
def rRepr (K : PySem.W.Frag) : List V → Hp → VK → Prop := fun xs H Q => ∃ v d, xs = [v] ∧ Dp K H v d ∧ Shw d 10000000 60 ∧ Q (.str d.shown) H
theorem call_reprD {k : Nat} (hgu : X.A.guards = some []) (hr : Room k X.A) : CallR X (.builtin "repr") (rRepr X.K) := by
  intro pins s σ H xs us Q I r h
  obtain ⟨v, d, rfl, hd, S, q⟩ := h
  obtain ⟨u, rfl, ru⟩ := vals1 r
  have hle : d.shown.length ≤ sizeLine := Nat.le_trans (shown_le d S.s S.h) (Nat.le_trans S.w (by decide : 10000000 ≤ sizeLine))
  obtain ⟨as, rd⟩ := Dp.reads I d v u hd ru
  cases hd with
  | non => cases ru; exact PySem.P.repr_of_none ⟨.str _, H, I.tok _, ⟨_, rfl⟩, q⟩
  | bl b => cases ru; exact PySem.P.repr_of_bool ⟨.str _, H, I.tok _, ⟨_, rfl⟩, by cases b <;> exact q⟩
  | int i =>
    obtain ⟨t, rfl⟩ := ru
    exact PySem.P.repr_of_int (by simpa [PyData.showable] using S.s) ⟨.str _, H, I.tok _, ⟨_, rfl⟩, q⟩
  | str z =>
    obtain ⟨t, rfl⟩ := ru
    exact PySem.P.repr_of_str ⟨.str _, H, I.tok _, ⟨_, rfl⟩, q⟩ hle
  | lst hs ha =>
    cases ru
    exact repr_of_reads' rd S.s (PyData.noDict_hsm S.h) hgu (by have := S.e; have := hr.un; omega) (fun _ _ e => e) (fun h' u tk hk => ⟨.str _, H, I.kept (t' := tk) hk, ⟨_, rfl⟩, q⟩) hle
  | tup hs ha =>
    cases ru
    exact repr_of_reads' rd S.s (PyData.noDict_hsm S.h) hgu (by have := S.e; have := hr.un; omega) (fun _ _ e => e) (fun h' u tk hk => ⟨.str _, H, I.kept (t' := tk) hk, ⟨_, rfl⟩, q⟩) hle
end
end G9
set_option Elab.async false
set_option linter.all false
set_option maxRecDepth 100000
set_option maxHeartbeats 2000000
namespace G9
open PySem PySem.Spec PyProof.Rows L2 GxR

theorem perm_lift {α β : Type} {f : α → β} {vs ws : List β} (p : vs.Perm ws) : ∀ L : List α, ws = L.map f → ∃ L1 : List α, L1.Perm L ∧ vs = L1.map f := by
  induction p with
  | nil =>
    intro L e
    exact ⟨L, .refl _, e⟩
  | cons x _ ih =>
    intro L e
    cases L with
    | nil => cases e
    | cons y L =>
      obtain ⟨e1, e2⟩ := List.cons.inj e
      obtain ⟨L1, q, e3⟩ := ih L e2
      exact ⟨y :: L1, q.cons y, by rw [List.map_cons, e1, e3]⟩
  | swap x y l =>
    intro L e
    match L, e with
    | a :: b :: L, e =>
      obtain ⟨e1, e2⟩ := List.cons.inj e
      obtain ⟨e2, e3⟩ := List.cons.inj e2
      exact ⟨b :: a :: L, .swap .., by rw [List.map_cons, List.map_cons, e1, e2, e3]⟩
  | trans _ _ ih1 ih2 =>
    intro L e
    obtain ⟨L1, q, e1⟩ := ih2 L e
    obtain ⟨L2, q2, e2⟩ := ih1 L1 e1
    exact ⟨L2, q2.trans q, e2⟩
def encT (q : Addr × List Int) : PyData := .tuple (q.2.map .int)
theorem dataLe_T : PySem.W.dataLe false encT = fun p q => !decide (q.2 < p.2) := by
  funext p q
  have e : PySem.W.dataLt (encT q) (encT p) = decide (q.2 < p.2) := PySem.W.dataLt_ints q.2 p.2
  rw [PySem.W.dataLe_eq, ← e]
  rfl
theorem each_refs {h : Heap} {P : Program} {w : World} : ∀ (L : List (Addr × List Int)), PySem.W.EachIs (fun v (q : Addr × List Int) => v = Value.ref q.1) (L.map fun q => Value.ref q.1) L
  | [] => .nil
  | q :: L => .cons rfl (each_refs (h := h) (P := P) (w := w) L)
theorem refs_each : ∀ {out : List Value} {L : List (Addr × List Int)}, PySem.W.EachIs (fun v (q : Addr × List Int) => v = Value.ref q.1) out L → out = L.map fun q => Value.ref q.1
  | _, _, .nil => rfl
  | _, _, .cons e t => by rw [List.map_cons, ← refs_each t, e]
section
variable {P : Program} {w : World} {A : Around} {E : Value → Shared → Prop} {s : Shared}
theorem sorted_setD {a : Addr} {L : List (Addr × List Int)} {es : Array (Int × Value)} {ep : Nat} {t : SetTable} {Q : Value → Shared → Prop} (R : SetTR P w s.heap a L es ep t) (hh : A.handled = none) (hu : A.units + 8 < cLine) (hne : ∀ q ∈ L, q.2 ≠ [])
    (hQ : ∀ s' p (out : Array Value) (c : Nat) (L' : List (Addr × List Int)), (∀ b o, s.heap.get? b = some o → s'.heap.get? b = some o) → s'.gens = s.gens → s'.os = s.os → s.heap.objs.size ≤ p →
      s'.heap.get? p = some (seqObj "list" out c) → out.toList = L'.map (fun q => Value.ref q.1) → L'.Perm L → L'.Pairwise (fun q r => ¬ r.2 < q.2) → Q (.ref p) s') :
    wpAny (model P w) A (call (.builtin "sorted") [.ref a]) Q E s := by
  obtain ⟨o, ho, hex, hd⟩ := R.ob
  have hfew := R.few
  have hsz := R.size
  refine Calls.call_function_entry kind_sorted plain_sorted entry_sorted (args_sorted1 _) ?_
  unfold Builtin.«sorted»
  refine wpAny_bind (m := checkCount "sorted" 1 1 _) (wpAny_pure ?_)
  refine wpAny_bind (collect_set (A := A.in1) hh ⟨o, ho, hex.1, hd⟩ R.fits (by unfold scanBound; omega) R.tab.ris R.led fun s1 vs k1 hz g1 o1 pm => ?_)
  have em : es.toList.map (·.2) = L.map fun q => Value.ref q.1 := by
    rw [R.rows]
    unfold rowsOf
    rw [List.map_map] <;> rfl
  rw [em] at pm
  obtain ⟨L1, p1, rfl⟩ := perm_lift pm L rfl
  have hvl : (L1.map fun q => Value.ref q.1).length < 64 := by rw [List.length_map, p1.length_eq]; exact hfew
  refine wpAny_bind (wpAny_newList ?_ (by rw [sizeLine_eq]; omega))
  generalize hvs : (L1.map fun q => Value.ref q.1) = vs at hvl
  have hoL : (s1.heap.push (seqObj "list" vs.toArray 0)).get? s1.heap.objs.size = some (seqObj "list" vs.toArray 0) := Heap.get?_push_size _ rfl
  have rd : ∀ q ∈ L1, Reads (s1.heap.push (seqObj "list" vs.toArray 0)) (.ref q.1) (encT q) [] := fun q hq => by
    obtain ⟨b, items, e, hT, hI⟩ := tupInts_of (P := P) (w := w) (isT_keep (R.tup q (p1.mem_iff.mp hq)) fun b u e => Heap.get?_push_of_some (seqObj "list" vs.toArray 0) (k1 b u e))
    cases e
    exact reads_tuple_ints (vr := items.toList) (by simpa using hT) (by simpa using hI)
  have er : ∀ l : List (Addr × List Int), (∀ q ∈ l, q ∈ L1) → PySem.W.EachIs (fun v b => ∃ as, Reads (s1.heap.push (seqObj "list" vs.toArray 0)) v (encT b) as ∧ s1.heap.objs.size ∉ as) (l.map fun q => Value.ref q.1) l := by
    intro l
    induction l with
    | nil => intro _; exact .nil
    | cons q l ih => intro h; exact .cons ⟨[], rd q (h q List.mem_cons_self), by simp⟩ (ih fun r hr => h r (List.mem_cons_of_mem _ hr))
  have er1 := er L1 fun _ h => h
  have ee := each_refs (h := s1.heap) (P := P) (w := w) L1
  rw [hvs] at er1 ee
  refine wpAny_bind (wpAny_holding (PySem.W.list_sort_data (s := { s1 with heap := s1.heap.push (seqObj "list" vs.toArray 0) }) hoL ee er1
    (fun d hd d' hd' => by
      obtain ⟨q, _, rfl⟩ := List.mem_map.mp hd
      obtain ⟨q', _, rfl⟩ := List.mem_map.mp hd'
      exact PySem.W.alike_ints q.2 q'.2)
    (.inl fun d hd => by
      obtain ⟨q, hq, rfl⟩ := List.mem_map.mp hd
      have := hne q (p1.mem_iff.mp hq)
      obtain ⟨a, b⟩ := q
      cases b with
      | nil => exact absurd rfl this
      | cons x r => exact ⟨_, _, rfl⟩) (by rw [p1.length_eq]; rw [sizeLine_eq]; omega)
    (fun b _ => by
      have : (encT b).depth = 1 := by
        show PyData.depthAll _ + 1 = 1
        rw [PySem.W.depth_ints]
      rw [this]
      show A.units + 1 + 1 + 1 < cLine
      omega) fun out ho' he => ?_))
  obtain ⟨c, hc⟩ := sortedHeap_at (vs := vs) (out := out.toArray) hoL
  refine wpAny_pure ⟨_, rfl, hQ _ s1.heap.objs.size out.toArray c (L1.mergeSort (PySem.W.dataLe false encT)) (fun b u e => ?_) g1 o1 hz hc (by simpa using refs_each he) ((List.mergeSort_perm _ _).trans p1) ?_⟩
  · have q := k1 b u e
    have hlt := Heap.lt_size q
    show (sortedHeap (s1.heap.push (seqObj "list" vs.toArray 0)) s1.heap.objs.size vs out.toArray).get? b = some u
    rw [sortedHeap_old (Nat.ne_of_lt hlt) (by rw [size_push']; exact Nat.lt_succ_of_lt hlt)]
    exact Heap.get?_push_of_some _ q
  · rw [dataLe_T]
    have pw := List.pairwise_mergeSort (le := fun p q : Addr × List Int => !decide (q.2 < p.2)) (fun a b c h1 h2 => by
      simp only [Bool.not_eq_true', decide_eq_false_iff_not] at h1 h2 ⊢
      exact fun z => by
        have h1' : a.2 ≤ b.2 := List.not_lt.mp h1
        have h2' : b.2 ≤ c.2 := List.not_lt.mp h2
        exact List.not_lt.mpr (List.le_trans h1' h2') z) (fun a b => by
      simp only [Bool.or_eq_true, Bool.not_eq_true', decide_eq_false_iff_not]
      by_cases h : b.2 < a.2
      · exact .inr (List.not_lt.mpr (List.le_of_lt h))
      · exact .inl h) L1
    exact pw.imp fun h => by simpa using h
end
section
variable {X : Cx}
/-- sorted(a set of tuples of ints, none of them empty) -/
def rSortedTs (K : PySem.W.Frag) (P : Program) (w : World) : List V → Hp → VK → Prop := fun vs H Q => ∃ (a : Addr) (L : List (Addr × List Int)), vs = [V.ref a] ∧ H a = some (SetTO P w a L) ∧ (∀ p ∈ L, SqT K H p.1 (p.2.map V.int)) ∧ (∀ p ∈ L, p.2 ≠ []) ∧
  ∀ (L' : List (Addr × List Int)) (p : Addr), L'.Perm L → (L'.map (·.2)).Nodup → L'.length < 64 → L'.Pairwise (fun q r => ¬ r.2 < q.2) → H p = none → Q (.ref p) (upd H p (.lst (L'.map fun q => V.ref q.1)))
theorem call_sortedTs {k : Nat} (hr : Room k X.A) (hc : X.calm = true) : CallR X (.builtin "sorted") (rSortedTs X.K X.prog X.w) := by
  intro pins s σ H vs us Q I r h
  obtain ⟨a, L, rfl, ha, hk, hne, q⟩ := h
  have R0 : SetT0 X.prog X.w s.heap a L := (I.hok a _ ha).1
  obtain ⟨es, ep, t, R⟩ := R0.full fun p hp => I.isT (hk p hp)
  rw [Vals.ref1 r]
  refine sorted_setD R (I.ok.hd hc) (by have := hr.un; omega) hne fun s' p out c L' k g o hp hg hout pm pw => ?_
  have hfew : L'.length < 64 := by rw [pm.length_eq]; exact R.few
  have hn : H p = none := I.hok.fresh hp
  have hv : Vals (L'.map fun q => V.ref q.1) out.toList := by rw [hout]; exact vals_of_refs L'
  have J := I.call' (s' := s') (ch := []) o (Un.laid k hp hn) (I.hok.laid (o := .lst (L'.map fun q => V.ref q.1)) k hp ⟨by rw [List.length_map, sizeLine_eq]; omega, out.toList, c, hv, hg⟩) (by rw [g]; exact I.bare) (fun _ z => nomatch z)
  exact ⟨.ref p, _, J, rfl, q L' p pm ((pm.map (·.2)).nodup_iff.mpr R.nd) hfew pw hn⟩
end
end G9
set_option Elab.async false
set_option linter.all false
set_option maxRecDepth 100000
set_option maxHeartbeats 2000000
namespace G9
open PySem PySem.Spec PyProof.Rows L2 GxR

/-- the abstract heap at the law's entry: empty tables of code, the script (where it is no object of the module) -/
def Hst (ts : List Addr) (fz : Bool) (a : Addr) (o : Obj) (ns : List Int) : Hp := fun b => if b ∈ ts then some (.tbl #[]) else if b = a ∧ fz = true then some (.frz o (.lst (ns.map V.int))) else none
theorem Hst.tab {ts fz a o ns b} (h : b ∈ ts) : Hst ts fz a o ns b = some (.tbl #[]) := if_pos h
theorem Hst.cases {ts fz a o ns b u} (h : Hst ts fz a o ns b = some u) : (b ∈ ts ∧ u = .tbl #[]) ∨ (b ∉ ts ∧ b = a ∧ fz = true ∧ u = .frz o (.lst (ns.map V.int))) := by
  unfold Hst at h
  by_cases hb : b ∈ ts
  · rw [if_pos hb] at h
    exact .inl ⟨hb, (Option.some.inj h).symm⟩
  · rw [if_neg hb] at h
    by_cases hc : b = a ∧ fz = true
    · rw [if_pos hc] at h
      exact .inr ⟨hb, hc.1, hc.2, (Option.some.inj h).symm⟩
    · rw [if_neg hc] at h
      cases h

theorem law_end {P : Program} {w : World} {K : PySem.W.Frag} {mg mb : Str → Option Value} {k : Nat} {fa a : Addr} {cs : List (Addr × Addr)} {fd : FuncData} {x : Str} {sp : Sp} {s₁ : Shared} {vs : List Value} {ns : List Int}
    (KX : K.In s₁.heap) (hns : s₁.heap.Ns mainGlobals mg) (hb : s₁.heap.Ns builtinsNs mb) (hbb : ∀ x : Str, x ≠ "__name__" → mb x = bootBuiltins x) (hlim : s₁.heap.NoLimit) (hg : s₁.gens = #[])
    (hT : ∀ p ∈ cs, s₁.heap.get? p.2 = some { cls := .none, data := .fields #[] }) (nT : ∀ p ∈ cs, K.lookup p.2 = none) (C : ∀ p ∈ cs, PySem.W.CodeHd s₁.heap p.1 p.2)
    (hbm : ∃ (bm : Addr) (ob : Obj), mg "__builtins__" = some (.ref bm) ∧ bm ≠ builtinsNs ∧ s₁.heap.get? bm = some ob ∧ ob.cls = .type "module" ∧ ob.dict = some builtinsNs ∧ ob.data = .plain)
    (ha : s₁.heap.get? a = some { cls := .type "list", data := .seq vs.toArray }) (hi : IntsAre vs ns) (hl : ns.length ≤ sizeLine) (hr : Room k callerA)
    (F : ∀ base : Heap, K.In base → base.Ns mainGlobals mg → (∀ p ∈ cs, TabB base mg p.1 p.2) → FnG P w K mg base k fa fd [x] sp) (hbind : ∀ (s : Shared) (u : Value), BindsTo s fd ⟨[u], []⟩ [(x, u)])
    (hsp : ∀ H : Hp, (∀ p ∈ cs, TabG H p.2) → SqL K H a (ns.map V.int) → sp [.ref a] H (fun v _ => v = .bl true) E0) :
    codeAny (model P w) callerA (.call (.ref fa) ⟨[.ref a], []⟩) (fun r s' => r = .ok (.ret (.bool true)) ∧ OldK s₁.heap s'.heap ∧ s'.os = s₁.os ∧ AllBare s'.gens) s₁ := by
  have rv := vals_ints hi
  have lenV := hi.length
  generalize hts : cs.map (·.2) = ts
  have inT : ∀ p ∈ cs, p.2 ∈ ts := fun p hp => hts ▸ List.mem_map.mpr ⟨p, hp, rfl⟩
  have isT : ∀ b ∈ ts, s₁.heap.get? b = some { cls := .none, data := .fields #[] } ∧ K.lookup b = none := fun b hb => by
    rw [← hts] at hb
    obtain ⟨p, hp, e⟩ := List.mem_map.mp hb
    exact e ▸ ⟨hT p hp, nT p hp⟩
  have aT : a ∉ ts := fun z => by
    have q := (isT a z).1
    rw [ha] at q
    injection q with q
    injection q with _ _ q
    cases q
  generalize hH : Hst ts (K.lookup a).isNone a { cls := .type "list", data := .seq vs.toArray } ns = H
  have ofH : ∀ {b u}, H b = some u → (b ∈ ts ∧ u = .tbl #[]) ∨ (b ∉ ts ∧ b = a ∧ (K.lookup a).isNone = true ∧ u = .frz { cls := .type "list", data := .seq vs.toArray } (.lst (ns.map V.int))) := fun {b u} e => by
    rw [← hH] at e
    exact Hst.cases e
  have tabH : ∀ b ∈ ts, H b = some (.tbl #[]) := fun b hb => by
    rw [← hH]
    exact Hst.tab hb
  have ok : HOk P w H s₁.heap := fun b u e => by
    rcases ofH e with ⟨h1, rfl⟩ | ⟨_, rfl, _, rfl⟩
    · exact (isT b h1).1
    · exact ⟨ha, by rw [List.length_map]; exact hl, vs, _, rv, ha⟩
  -- what is no table and not the script is seen in the base
  have seen : ∀ {b : Addr} {o : Obj}, s₁.heap.get? b = some o → (∀ v n, o.data ≠ .seq v n) → o.data ≠ .fields #[] → H b = none := fun {b o} e h1 h2 => by
    cases q : H b with
    | none => rfl
    | some u =>
      rcases ofH q with ⟨z, _⟩ | ⟨_, z, _, _⟩
      · rw [(isT b z).1] at e
        cases e
        exact absurd rfl h2
      · rw [z, ha] at e
        cases e
        exact absurd rfl (h1 _ _)
  have nsB : ∀ {b : Addr} {m : Str → Option Value}, s₁.heap.Ns b m → (hidT s₁.heap H).Ns b m := fun {b m} ⟨o, es, ep, e, d, r⟩ => ⟨o, es, ep, hidT_get e (seen e (fun v n z => by rw [d] at z; cases z) fun z => by rw [d] at z; cases z), d, r⟩
  have kB : K.In (hidT s₁.heap H) := fun b o e => hidT_get (KX b o e) (by
    cases q : H b with
    | none => rfl
    | some u =>
      rcases ofH q with ⟨z, _⟩ | ⟨_, z, z2, _⟩
      · rw [(isT b z).2] at e
        cases e
      · rw [z] at e
        rw [e] at z2
        cases z2)
  have hM : L2.Mod K mg (hidT s₁.heap H) := ⟨kB, nsB hns, ⟨mb, nsB hb, hbb⟩, by obtain ⟨mc, h1, h2⟩ := hlim; exact ⟨mc, nsB h1, h2⟩⟩
  have TB : ∀ p ∈ cs, TabB (hidT s₁.heap H) mg p.1 p.2 := fun p hp => by
    refine ⟨?_, ?_, fun z => ?_⟩
    · obtain ⟨o, us, file, tf, flags, tg, inF, text, tt, e1, r1, r2, r3, r4, r5, r6, r7, r8, hne⟩ := C p hp
      refine ⟨o, us, file, tf, flags, tg, inF, text, tt, hidT_get e1 (seen e1 (fun v n z => ?_) fun z => ?_), r1, r2, r3, r4, r5, r6, r7, r8, hne⟩
      · rw [r2] at z
        cases z
      · rw [r2] at z
        injection z with z
        rw [z] at r3
        simp at r3
    · obtain ⟨bm, ob, b1, b2, b3, b4, b5, b6⟩ := hbm
      refine ⟨bm, ob, b1, b2, fun q => ?_, fun q => ?_, hidT_get b3 (seen b3 (fun v n z => by rw [b6] at z; cases z) fun z => by rw [b6] at z; cases z), b4, b5, b6⟩
      · obtain ⟨o, es, ep, e, hd, _⟩ := hns
        rw [q, e] at b3
        cases b3
        rw [hd] at b6
        cases b6
      · rw [q, hT p hp] at b3
        cases b3
        cases b6
    · obtain ⟨o, es, ep, e, hd, _⟩ := hns
      rw [z, hT p hp] at e
      cases e
      cases hd
  have sq : SqL K H a (ns.map V.int) := by
    cases hk : K.lookup a with
    | none => exact .inl (.inr ⟨{ cls := .type "list", data := .seq vs.toArray }, by rw [← hH]; unfold Hst; rw [if_neg aT, if_pos ⟨rfl, by rw [hk]; rfl⟩]⟩)
    | some o =>
      have e := KX a o hk
      rw [ha] at e
      cases e
      exact .inr ⟨_, vs.toArray, _, hk, rfl, rfl, rfl, by rw [List.size_toArray, lenV]; exact hl, by simpa using rv⟩
  have e0 : Env0 P w K mg (hidT s₁.heap H) callerA [] s₁ H := ⟨rfl, hM, fun b o e => of_hidT e, Nat.le_of_eq (hidT_size _ _), trivial, fun b hb => absurd (show b ∈ ([] : List Addr) from hb) (by simp), ok, .of_eq hg⟩
  refine codeAny_mono ((F _ kB (nsB hns) TB).run callerA [] s₁ H ⟨[.ref a], []⟩ [.ref a] [.ref a] _ rfl hr e0 (hbind s₁ (.ref a)) (.cons rfl .nil) (hsp H (fun p hp => ⟨#[], tabH _ (inT p hp), trivial⟩) sq)) fun r s' h => ?_
  cases r with
  | error e => exact False.elim h
  | ok fl =>
    cases fl with
    | next => exact False.elim h
    | brk => exact False.elim h
    | cont => exact False.elim h
    | ret u =>
      obtain ⟨v, H', os, bare, un, hok', r', q⟩ := h
      have q' : v = .bl true := q
      subst q'
      cases r'
      have grown : ∀ b ∈ ts, ∃ more : Array Value, s'.heap.get? b = some { cls := .none, data := .fields more } := fun b hb => by
        obtain ⟨more, z⟩ := un.tbls b #[] (tabH b hb)
        exact ⟨_, hok' b _ z⟩
      have kept : ∀ b o, b ∉ ts → s₁.heap.get? b = some o → s'.heap.get? b = some o := fun b o nb e => by
        cases q : H b with
        | none => exact un.keep b o e q (fun z => absurd (show b ∈ ([] : List Addr) from z) (by simp)) (by simp)
        | some u =>
          rcases ofH q with ⟨z, _⟩ | ⟨_, _, _, rfl⟩
          · exact absurd z nb
          · have e1 := (ok b _ q).1
            rw [e] at e1
            cases e1
            exact (hok' b _ (un.frzs b _ _ q)).1
      refine ⟨rfl, ⟨fun b o e => ?_, fun b o e => ?_⟩, os, bare⟩
      · by_cases hbt : b ∈ ts
        · obtain ⟨more, hm⟩ := grown b hbt
          rw [← hts] at hbt
          obtain ⟨p, hp, ep⟩ := List.mem_map.mp hbt
          have ep' : p.2 = b := ep
          subst ep'
          rw [hT p hp] at e
          cases e
          exact .inr (.inl ⟨((C p hp).tab (hT p hp)).isCodeTable, rfl, #[], more, rfl, by rw [Array.empty_append]; exact hm⟩)
        · exact .inl (kept b o hbt e)
      · by_cases hbt : b ∈ ts
        · obtain ⟨more, hm⟩ := grown b hbt
          exact ⟨_, hm⟩
        · exact ⟨o, kept b o hbt e⟩

/-- what is known of the law at the head's heap -/
def LawG (l : PySem.W.OpenLaw) (w : World) (K : PySem.W.Frag) (k n : Nat) (x : Str) (mg : Str → Option Value) (fa : Addr) (h : Heap) : Prop :=
  ∃ (fd : FuncData) (cs : List (Addr × Addr)) (sp : Sp), (∀ p ∈ cs, h.get? p.2 = some { cls := .none, data := .fields #[] }) ∧ (∀ p ∈ cs, K.lookup p.2 = none) ∧ (∀ p ∈ cs, PySem.W.CodeHd h p.1 p.2) ∧ (∀ (s : Shared) (u : Value), BindsTo s fd ⟨[u], []⟩ [(x, u)]) ∧
    (∀ (H : Hp) (a : Addr) (ns : List Int), ns.length ≤ n → (∀ z ∈ ns, Builtin.Int.intBits z ≤ 1048576) → (∀ p ∈ cs, TabG H p.2) → SqL K H a (ns.map V.int) → sp [.ref a] H (fun v _ => v = .bl true) E0) ∧
    ∀ base : Heap, K.In base → base.Ns mainGlobals mg → (∀ p ∈ cs, TabB base mg p.1 p.2) → FnG l.prog w K mg base k fa fd [x] sp
theorem walk_G {l : PySem.W.OpenLaw} {n k : Nat} {q : Program} {loose : List Str} {XP : (Str → Option Value) → Heap → Prop} {YP : World → Heap → Prop} {d : DefRec} {K : Params → PySem.W.Frag} {x : Str}
    (hn : l.most = some n) (hn2 : n ≤ sizeLine) (hdf : d.params.defaults = []) (hr : Room k callerA) (hY : ∀ (w : World) (h : Heap), YP w h → (K w.params).In h)
    (F : ∀ (w : World) (mean : ExcName → Option Value) (mg mb : Str → Option Value) (fa : Addr) (h : Heap), (K w.params).In h → Top q (PySem.W.looseW q loose) mean mg mb h → mg d.name = some (.ref fa) → LawG l w (K w.params) k n x mg fa h) :
    PySem.W.WalkO q loose XP YP l.row.toRowW d [] (fun f vs => PySem.call f vs) := by
  refine Att.attach_callB hn hdf fun w s₀ s₁ mg mb fa o pm cd doc a vs ns G Y ho hd hcd hmg hobj hints hlen hbits hg => ?_
  have KX := hY w _ Y
  obtain ⟨fd, cs, sp, hT, nT, C, hb, hsp, hF⟩ := F w _ mg mb fa _ KX G.T hmg
  exact law_end KX G.T.g G.T.b G.T.builtins G.T.nolimit hg hT nT C G.T.bmain hobj hints (Nat.le_trans hlen hn2) hr hF hb fun H hH hS => hsp H a ns hlen hbits hH hS
end G9
set_option Elab.async false
set_option linter.all false
set_option maxRecDepth 100000
set_option maxHeartbeats 2000000
namespace G9
open PySem PySem.Spec PyProof.Rows L2 GxR RT
section
variable {X : Cx}
/-- set(a tuple of ints) -/
def rSetOfI (K : PySem.W.Frag) (w : World) : List V → Hp → VK → Prop := fun xs H Q => ∃ (l : Addr) (ns : List Int), xs = [V.ref l] ∧ SqT K H l (ns.map V.int) ∧ ns.length ≤ 1000 ∧ ∀ a c, H a = none → c ≤ ns.length → Q (.ref a) (upd H a (SetO w a (fun j => decide (j ∈ ns)) c))
theorem cr_setOfI (hc : X.calm = true) : CallR X (.type "set") (rSetOfI X.K X.w) := by
  intro pins s σ H xs us Q I r h
  obtain ⟨l, ns, rfl, hl, hf, q⟩ := h
  rw [Vals.ref1 r]
  obtain ⟨its, rv, pl, hz⟩ := I.tuple hl
  have hn : H s.heap.objs.size = none := I.hok.fresh (Nat.le_refl _)
  refine call_set_tupI (P := X.prog) (w := X.w) ns (I.ok.hd hc) (show s.heap.IsTuple l its.toArray from pl) (by simpa using ints_of_vals rv) (by unfold scanBound; omega) fun h' tk c R hc' k => ?_
  exact ⟨.ref s.heap.objs.size, upd H s.heap.objs.size (SetO X.w s.heap.objs.size (fun j => decide (j ∈ ns)) c), I.laid (t' := tk) k (Nat.le_refl _) (setO_new R), rfl, q _ c hn hc'⟩
end
theorem for_revT {K : PySem.W.Frag} {a : Addr} {n : Nat} {xs : List V} {g : TG} {tb : TS} {D : Ends} {σ : L2.St} {H : Hp} (hn : xs.length = n) (Pv : Nat → L2.St → Hp → Prop) (h0 : Pv 0 σ H) (hq : ∀ i σ H, i ≤ n → Pv i σ H → SqT K H a xs)
    (hs : ∀ i x σ H, i < n → xs[n - 1 - i]? = some x → Pv i σ H → g x σ H fun σ2 H2 => tb { D with nx := Pv (i + 1), ct := Pv (i + 1), bk := D.nx } σ2 H2) (hd : ∀ σ H, Pv n σ H → D.nx σ H) :
    ∃ W : Nat → Nat → L2.St → Hp → Prop, (∃ m, W 0 m σ H) ∧ ∀ i m σ H, W i m σ H →
      ((ItvT K a n).stop i H ∧ D.nx σ H) ∨ ((ItvT K a n).go i H ∧ ∃ N : L2.St → Hp → Prop, (∀ σ' H', N σ' H' → ∃ m', m' < m ∧ W (i + 1) m' σ' H') ∧ ∀ x H', (ItvT K a n).yld i H x H' → g x σ H' fun σ2 H2 => tb { D with nx := N, ct := N, bk := D.nx } σ2 H2) := by
  refine ⟨fun i m σ H => m = n - i ∧ i ≤ n ∧ Pv i σ H, ⟨_, rfl, Nat.zero_le _, h0⟩, ?_⟩
  rintro i m σ H ⟨rfl, hi, p⟩
  have sq := hq i σ H hi p
  by_cases hlt : i < n
  · have hk : n - 1 - i < xs.length := by omega
    refine .inr ⟨⟨hlt, xs, xs[n - 1 - i], sq, List.getElem?_eq_getElem hk⟩, Pv (i + 1), fun σ' H' p' => ⟨n - (i + 1), by omega, rfl, hlt, p'⟩, fun x H' y => ?_⟩
    obtain ⟨e, y⟩ := y
    subst e
    exact hs i x σ _ hlt (y xs sq) p
  · have e : i = n := by omega
    subst e
    exact .inl ⟨Nat.le_refl _, hd σ H p⟩
end G9
set_option Elab.async false
set_option linter.all false
set_option maxRecDepth 100000
set_option maxHeartbeats 4000000
namespace K3
open PySem L2 G9 GxR

def top (i : Nat) : Stmt := PySem.Challenge.pw_deedseen_k03_whole_goals.main.body.getD i (.Pass ⟨0, 0, 0, 0⟩)
/-- the built-in names that the text leaves alone -/
local macro_rules | `(tactic| walk_at "rd") => `(tactic| (repeat (first | refine ⟨_, rfl, ?_⟩ | refine ⟨_, _, rfl, rfl, ?_⟩ | refine ⟨Or.inl ⟨by omega, by omega⟩, ?_⟩ | refine ⟨Or.inr ⟨by omega, by omega⟩, ?_⟩ | refine ⟨(by show (0 : Int) < _; omega), ?_⟩)))
structure Blt (mg : Str → Option Value) : Prop where
  int : mg "int" = none
  list : mg "list" = none
  len : mg "len" = none
  range : mg "range" = none
  tuple : mg "tuple" = none
  sorted : mg "sorted" = none
  set : mg "set" = none
  repr : mg "repr" = none
  type : mg "type" = none
  any : mg "any" = none
  enumerate : mg "enumerate" = none

theorem gu {A : Around} {env : Env} (h : A.guards = some []) : (A.deeper env).guards = some [] := (guards_deeper A env).trans h
/-! ### the draws -/
abbrev sMixed : Stmt := top 24
abbrev sBegin : Stmt := top 25
abbrev sDraw : Stmt := top 26
theorem ixN_nat {n j : Nat} (h : j < n) : ixN n (j : Int) = some j := by
  unfold ixN
  rw [if_pos (by omega), if_pos (by omega)]
  rfl
def spMixed : Sp := fun vs H Q _ => ∃ c k : Int, vs = [.int c, .int k] ∧ 0 ≤ k ∧ k < 2 ^ 40 ∧ ∀ r : Int, 0 ≤ r → r < 2147483647 → Q (.int r) H
abbrev kCells : Key := Sum.inr "cells"
abbrev kLefts : Key := Sum.inr "lefts"
abbrev kAt : Key := Sum.inr "at"
theorem kne1 : ¬ (kCells = kAt) := by decide +kernel
theorem kne2 : ¬ (kLefts = kAt) := by decide +kernel
theorem kne3 : ¬ (kCells = kLefts) := by decide +kernel
def stD (c l : Addr) (n : Int) : List (Key × V) := [(kCells, .ref c), (kLefts, .ref l), (kAt, .int n)]
theorem st_cells (c l : Addr) (n : Int) : valV (stD c l n) kCells = some (.ref c) := by
  unfold valV stD
  rw [List.find?_cons_of_pos (by simp)]
  rfl
theorem st_lefts (c l : Addr) (n : Int) : valV (stD c l n) kLefts = some (.ref l) := by
  unfold valV stD
  rw [List.find?_cons_of_neg (by rw [decide_eq_false kne3]; simp), List.find?_cons_of_pos (by simp)]
  rfl
theorem st_at (c l : Addr) (n : Int) : valV (stD c l n) kAt = some (.int n) := by
  unfold valV stD
  rw [List.find?_cons_of_neg (by rw [decide_eq_false kne1]; simp), List.find?_cons_of_neg (by rw [decide_eq_false kne2]; simp), List.find?_cons_of_pos (by simp)]
  rfl
theorem st_put (c l : Addr) (n m : Int) : putK (stD c l n) kAt (.int m) = stD c l m := by
  unfold putK stD
  have e : ([(kCells, V.ref c), (kLefts, .ref l), (kAt, .int n)].any fun kv => decide (kv.1 = kAt)) = true := by
    simp only [List.any_cons, List.any_nil]
    rw [decide_eq_false kne1, decide_eq_false kne2]
    simp
  rw [if_pos e]
  simp only [List.map_cons, List.map_nil]
  rw [if_neg kne1, if_neg kne2, if_pos trivial]
/-- the state: its dict at d, its two lists; so many draws at most -/
structure StAt (K : PySem.W.Frag) (H : Hp) (d c l : Addr) (n : Nat) : Prop where
  ex : ∃ (cs ls : List Int) (i : Int), H d = some (.dK (stD c l i)) ∧ H c = some (.lst (cs.map V.int)) ∧ H l = some (.lst (ls.map V.int)) ∧ cs.length = ls.length ∧ 0 < cs.length ∧ cs.length ≤ 63 ∧ 0 ≤ i ∧ i ≤ n
  cl : c ≠ l
  cd : c ≠ d
theorem StAt.mono {K H d c l n m} (S : StAt K H d c l n) (h : n ≤ m) : StAt K H d c l m := by
  obtain ⟨⟨cs, ls, i, h1, h2, h3, h4, h5, h6, h7, h8⟩, a, b⟩ := S
  exact ⟨⟨cs, ls, i, h1, h2, h3, h4, h5, h6, h7, by omega⟩, a, b⟩
/-- nothing but new things -/
theorem StAt.ext {K H H' d c l n} (S : StAt K H d c l n) (x : Ext [] H H') : StAt K H' d c l n := by
  obtain ⟨⟨cs, ls, i, h1, h2, h3, r⟩, a, b⟩ := S
  exact ⟨⟨cs, ls, i, x.own (by simp) h1 (fun _ z => by cases z), x.own (by simp) h2 (fun _ z => by cases z), x.own (by simp) h3 (fun _ z => by cases z), r⟩, a, b⟩
theorem StAt.not {K H d c l n} (S : StAt K H d c l n) {p : Addr} (h : H p = none) : p ≠ d ∧ p ≠ c ∧ p ≠ l := by
  obtain ⟨⟨cs, ls, i, h1, h2, h3, r⟩, a, b⟩ := S
  exact ⟨fun z => (by rw [z, h1] at h; cases h), fun z => (by rw [z, h2] at h; cases h), fun z => (by rw [z, h3] at h; cases h)⟩
theorem StAt.at {K H d c l n} (S : StAt K H d c l n) {p : Addr} {o : HO} (h : p ≠ d ∧ p ≠ c ∧ p ≠ l) : StAt K (upd H p o) d c l n := by
  obtain ⟨⟨cs, ls, i, h1, h2, h3, r⟩, a, b⟩ := S
  exact ⟨⟨cs, ls, i, by rw [upd_ne h.1.symm]; exact h1, by rw [upd_ne h.2.1.symm]; exact h2, by rw [upd_ne h.2.2.symm]; exact h3, r⟩, a, b⟩
/-- nothing that counts stands there -/
def Fre (H : Hp) (p : Addr) : Prop := (∀ o, H p = some o → ¬ NoTbl o) ∧ ¬ TabG H p
theorem Fre.of {H : Hp} {p : Addr} (h : H p = none) : Fre H p := by
  refine ⟨fun o e => ?_, fun t => ?_⟩
  · rw [h] at e
    cases e
  · obtain ⟨ps, e, _⟩ := t
    rw [h] at e
    cases e
theorem _root_.G9.Ext.fre {S : List Addr} {H H1 : Hp} (x : Ext S H H1) {p : Addr} (hp : p ∉ S) (h : Fre H1 p) : Fre H p := ⟨fun o e n => h.1 o (x.1 p o e (.inl hp) n) n, fun t => h.2 (x.2 p t)⟩
theorem _root_.G9.Ext.at {S : List Addr} {H H1 : Hp} (x : Ext S H H1) {p : Addr} {o : HO} (h : Fre H p) : Ext S H (upd H1 p o) := by
  refine ⟨fun b u e n m => ?_, fun P t => ?_⟩
  · have hb : b ≠ p := fun z => by
      rw [z] at e
      exact h.1 u e m
    rw [upd_ne hb]
    exact x.1 b u e n m
  · have hb : P ≠ p := fun z => by
      rw [z] at t
      exact h.2 t
    obtain ⟨ps, e, r⟩ := x.2 P t
    exact ⟨ps, by rw [upd_ne hb]; exact e, r⟩
theorem not2 {d c l p : Addr} (h : p ≠ d ∧ p ≠ c ∧ p ≠ l) : p ∉ [d, l] := by simp [h.1, h.2.2]
def spDraw (K : PySem.W.Frag) : Sp := fun vs H Q _ => ∃ (d c l : Addr) (n : Nat) (b : Int), vs = [.ref d, .int b] ∧ StAt K H d c l n ∧ n ≤ 1000000 ∧ 1 ≤ b ∧ b ≤ 1000000 ∧
  ∀ (r : Int) (H' : Hp), 0 ≤ r → r < b → StAt K H' d c l (n + 1) → Ext [d, l] H H' → Q (.int r) H'
section
variable {P : Program} {w : World} {K : PySem.W.Frag} {mg : Str → Option Value} {base : Heap}
theorem scM : FnScope ["cell", "k"] ["cell", "k"] (defScope sMixed) := ⟨rfl, rfl, rfl, by decide +kernel, rfl, by decide +kernel, by decide +kernel⟩
theorem ok_mixed {f c : Addr} {fd : FuncData} (F : FunC K "_law_mixed" "_law_mixed" sMixed f fd c) (T : Blt mg) : FnG P w K mg base 1 f fd ["cell", "k"] spMixed := by
  refine F.ok scM (fun vs H Q E h => ?_) (fun A outer s H vs Q hg hr h => ?_)
  · obtain ⟨_, _, rfl, _⟩ := h
    rfl
  · obtain ⟨cv, k, rfl, k0, k1, q⟩ := h
    refine ⟨_, pss_cons (ps_set (i := 0) scM.nd rfl (Or.inl rfl) (pe_op op_mod (pe_callTy call_int1 (by rfl) T.int (by decide +kernel) (pa_cons (pv 0) pa_nil)) pe_int))
      (pss_one (ps_ret (pe_op op_mod (pe_op op_mul (pe_op op_mod (pe_op op_add (pe_op op_add (pe_op op_mul (pv 0) (pe_op op_add pe_int (pe_op op_mul (pe_op op_mul pe_int (pv 1)) (pv 1)))) (pe_op op_mul pe_int (pv 1))) pe_int) pe_int) pe_int) pe_int))), ?_⟩
    have b0 : 0 ≤ cv % 2147483647 := Int.emod_nonneg _ (by decide)
    have b1 : cv % 2147483647 < 2147483647 := Int.emod_lt_of_pos _ (by decide)
    refine ⟨_, rfl, .inl ⟨_, rfl, ?_⟩⟩
    walk_at "rd"
    exact q _ (Int.emod_nonneg _ (by decide)) (Int.lt_trans (Int.emod_lt_of_pos _ (by decide)) (by decide))
theorem scD : FnScope ["state", "limit", "at", "place", "left", "number"] ["state", "limit"] (defScope sDraw) := ⟨rfl, rfl, rfl, by decide +kernel, rfl, by decide +kernel, by decide +kernel⟩
theorem ok_draw {f c fM cM : Addr} {fd fdM : FuncData} (F : FunC K "_law_draw" "_law_draw" sDraw f fd c) (T : Blt mg) (FM : FunC K "_law_mixed" "_law_mixed" sMixed fM fdM cM) (bM : Binds K fdM ["cell", "k"] []) (mM : mg "_law_mixed" = some (.ref fM)) :
    FnG P w K mg base 2 f fd ["state", "limit"] (spDraw K) := by
  have GM : FnG P w K mg base 1 fM fdM ["cell", "k"] spMixed := ok_mixed FM T
  refine F.ok scD (fun vs H Q E h => ?_) (fun A outer s H vs Q hg hr h => ?_)
  · obtain ⟨_, _, _, _, _, rfl, _⟩ := h
    rfl
  · obtain ⟨d, ca, l, n, b, rfl, S, hn, b1, b2, q⟩ := h
    have hu := hu_of hr
    obtain ⟨⟨cs, ls, i, hd, hc, hl, he, hp, h63, i0, i1⟩, ncl, ncd⟩ := id S
    have ndl : d ≠ l := fun z => by rw [z, hl] at hd; cases hd
    refine ⟨_, pss_cons (ps_set (i := 2) scD.nd rfl (Or.inl rfl) (pe_dget hu (pv 0) pe_str (fun _ _ => rfl)))
      (pss_cons (ps_dput hu (pv 0) pe_str (pe_op op_add (pv 2) pe_int) rfl)
      (pss_cons (ps_set (i := 3) scD.nd rfl (Or.inl rfl) (pe_op op_mod (pe_callTy call_int1 (by rfl) T.int (by decide +kernel) (pa_cons (pv 2) pa_nil)) (pe_callB call_len_seq (by rfl) T.len PySem.boot_len (pa_cons (pe_dget hu (pv 0) pe_str (fun _ _ => rfl)) pa_nil))))
      (pss_cons (ps_set (i := 4) scD.nd rfl (Or.inl rfl) (pe_ix ix_list (pe_dget hu (pv 0) pe_str (fun _ _ => rfl)) (pv 3) (fun _ _ => rfl)))
      (pss_cons (ps_if (pt_cmpR op_gt (pv 4) pe_int (nomark _))
        (pss_cons (ps_asg (pe_op op_fdiv (pv 4) (pv 1)) (pg_sub (pe_dget hu (pv 0) pe_str (fun _ _ => rfl)) (pv 3) set_list))
        (pss_one (ps_ret (pe_op op_mod (pe_callTy call_int1 (by rfl) T.int (by decide +kernel) (pa_cons (pv 4) pa_nil)) (pv 1))))) pss_nil)
      (pss_cons (ps_set (i := 5) scD.nd rfl (Or.inl rfl) (pg_call GM (gu hg) (hr.mono (by decide)) (by rfl) mM FM.kp bM (pa_cons (pg_call GM (gu hg) (hr.mono (by decide)) (by rfl) mM FM.kp bM (pa_cons (pe_ix ix_list (pe_dget hu (pv 0) pe_str (fun _ _ => rfl)) (pv 3) (fun _ _ => rfl)) (pa_cons (pv 2) pa_nil))) (pa_cons (pe_op op_add pe_int (pv 2)) pa_nil))))
      (pss_one (ps_ret (pe_op op_mod (pe_op op_fdiv (pe_callTy call_int1 (by rfl) T.int (by decide +kernel) (pa_cons (pe_op op_add (pe_op op_mul (pv 5) pe_int) (pg_call GM (gu hg) (hr.mono (by decide)) (by rfl) mM FM.kp bM (pa_cons (pv 5) (pa_cons (pe_op op_add pe_int (pv 2)) pa_nil)))) pa_nil)) pe_int) (pv 1))))))))), ?_⟩
    have gAt : DGet H d (.str "at") (some (.int i)) := by
      have z := DGet.k (k := kAt) hd
      rw [st_at] at z
      exact z
    have hd1 : ∀ m : Int, upd H d (.dK (stD ca l m)) d = some (.dK (stD ca l m)) := fun m => upd_same
    have gC : ∀ (m : Int) (H2 : Hp), H2 d = some (.dK (stD ca l m)) → DGet H2 d (.str "cells") (some (.ref ca)) := fun m H2 e => by
      have z := DGet.k (k := kCells) e
      rw [st_cells] at z
      exact z
    have gL : ∀ (m : Int) (H2 : Hp), H2 d = some (.dK (stD ca l m)) → DGet H2 d (.str "lefts") (some (.ref l)) := fun m H2 e => by
      have z := DGet.k (k := kLefts) e
      rw [st_lefts] at z
      exact z
    refine ⟨_, rfl, d, _, rfl, gAt, ?_⟩
    refine ⟨_, rfl, _, _, rfl, rfl, _, rfl, d, upd H d (.dK (stD ca l (i + 1))), rfl, (by rw [← st_put ca l i (i + 1)]; exact DPut.k (k := kAt) hd (by show 3 < sizeLine; decide)), ?_⟩
    generalize hH1 : upd H d (.dK (stD ca l (i + 1))) = H1
    have d1 : H1 d = some (.dK (stD ca l (i + 1))) := by rw [← hH1]; exact upd_same
    have x1 : Ext [d, l] H H1 := by rw [← hH1]; exact Ext.put hd (fun _ z => by cases z) (fun z => z) (by simp)
    have c1 : H1 ca = some (.lst (cs.map V.int)) := by rw [← hH1, upd_ne ncd]; exact hc
    have l1 : H1 l = some (.lst (ls.map V.int)) := by rw [← hH1, upd_ne ndl.symm]; exact hl
    have hlp : (0 : Int) < ((cs.map V.int).length : Int) := by rw [List.length_map]; omega
    refine ⟨_, rfl, .inl ⟨_, rfl, _, rfl, d, _, rfl, gC _ _ d1, ca, _, rfl, .inl (.inl (.inl c1)), _, _, rfl, rfl, hlp, ?_⟩⟩
    obtain ⟨j, ej, hj⟩ : ∃ j : Nat, i % ((cs.map V.int).length : Int) = (j : Int) ∧ j < cs.length := by
      refine ⟨(i % ((cs.map V.int).length : Int)).toNat, ?_, ?_⟩
      · have := Int.emod_nonneg i (show ((cs.map V.int).length : Int) ≠ 0 by omega)
        omega
      · have h1 := Int.emod_nonneg i (show ((cs.map V.int).length : Int) ≠ 0 by omega)
        have h2 := Int.emod_lt_of_pos i hlp
        rw [List.length_map] at h1 h2 ⊢
        omega
    have hjl : j < ls.length := by omega
    have aL : atI (ls.map V.int) (i % ((cs.map V.int).length : Int)) = some (V.int ls[j]) := by
      rw [ej]
      exact atI_nat (by rw [List.getElem?_map, List.getElem?_eq_getElem hjl]; rfl)
    have aC : atI (cs.map V.int) (i % ((cs.map V.int).length : Int)) = some (V.int cs[j]) := by
      rw [ej]
      exact atI_nat (by rw [List.getElem?_map, List.getElem?_eq_getElem hj]; rfl)
    refine ⟨_, rfl, d, _, rfl, gL _ _ d1, _, rfl, l, _, _, _, rfl, rfl, .inl (.inl l1), aL, ?_⟩
    refine ⟨_, rfl, _, _, rfl, rfl, _, rfl, ?_⟩
    refine ite2 (fun hpos => ?_) (fun hneg => ?_)
    · refine ⟨_, rfl, _, rfl, _, _, rfl, rfl, ⟨by omega, by omega⟩, _, rfl, d, _, rfl, gL _ _ d1, _, rfl, l, _, _, j, rfl, rfl, l1, (by rw [ej]; exact ixN_nat (by rw [List.length_map]; exact hjl)), ?_⟩
      refine ⟨_, rfl, .inl ⟨_, rfl, _, rfl, _, _, rfl, rfl, (by show (0 : Int) < b; omega), ?_⟩⟩
      generalize hH2 : upd H1 l (.lst ((ls.map V.int).set j (.int (ls[j] / b)))) = H2
      have x2 : Ext [d, l] H H2 := x1.trans (by rw [← hH2]; exact Ext.put l1 (fun _ z => by cases z) (fun z => z) (by simp))
      refine q _ H2 (Int.emod_nonneg _ (by omega)) (Int.emod_lt_of_pos _ (by omega)) ⟨⟨cs, ls.set j (ls[j] / b), i + 1, ?_, ?_, ?_, by rw [List.length_set]; exact he, hp, h63, by omega, by omega⟩, ncl, ncd⟩ x2
      · rw [← hH2, upd_ne ndl]
        exact d1
      · rw [← hH2, upd_ne ncl]
        exact c1
      · rw [← hH2, upd_same, List.map_set]
    · refine ⟨_, rfl, d, _, rfl, gC _ _ d1, _, rfl, ca, _, _, _, rfl, rfl, .inl (.inl c1), aC, _, rfl, ⟨_, _, rfl, i0, by omega, fun m1 m10 m11 => ?_⟩⟩
      refine ⟨_, rfl, _, _, rfl, rfl, _, _, rfl, by omega, by omega, fun m2 m20 m21 => ?_⟩
      refine ⟨_, rfl, _, _, rfl, rfl, .inr ⟨by omega, by omega⟩, _, rfl, _, rfl, _, _, rfl, rfl, _, _, rfl, by omega, by omega, fun m3 m30 m31 => ?_⟩
      refine ⟨_, _, rfl, rfl, .inl ⟨_, rfl, _, _, rfl, rfl, ⟨by omega, by omega⟩, _, rfl, _, _, rfl, rfl, (by show (0 : Int) < b; omega), ?_⟩⟩
      exact q _ H1 (Int.emod_nonneg _ (by omega)) (Int.emod_lt_of_pos _ (by omega)) ⟨⟨cs, ls, i + 1, d1, c1, l1, he, hp, h63, by omega, by omega⟩, ncl, ncd⟩ x1
end

def big (z : Int) : Int := if z ≥ 10 ^ 18 then z else 0
theorem big1 {z : Int} (h : z ≥ 10 ^ 18) : big z = z := if_pos h
theorem big0 {z : Int} (h : ¬ z ≥ 10 ^ 18) : big z = 0 := if_neg h
def spBegin (K : PySem.W.Frag) : Sp := fun vs H Q _ => ∃ (a : Addr) (ns : List Int), vs = [.ref a] ∧ SqL K H a (ns.map V.int) ∧ ns.length ≤ 63 ∧
  ∀ (d c l : Addr) (H' : Hp), StAt K H' d c l 0 → Ext [] H H' → Q (.ref d) H'
theorem _root_.G9.Ext.then {S : List Addr} {H H1 H2 : Hp} (x : Ext S H H1) (k : ∀ b o, H1 b = some o → H2 b = some o) : Ext S H H2 := x.trans ⟨fun b o e _ _ => k b o e, fun P ⟨ps, e, r⟩ => ⟨ps, k _ _ e, r⟩⟩
theorem dp_ints (K : PySem.W.Frag) (H : Hp) : ∀ ns : List Int, DpAll K H (ns.map V.int) (ns.map .int)
  | [] => .nil
  | n :: ns => .cons (.int n) (dp_ints K H ns)
theorem shaped_ints (ns : List Int) : SeqAt.shaped (.list (ns.map .int)) = true := by
  have h1 : ∀ l : List Int, PyData.canLayAll0 (l.map .int) = true := by
    intro l
    induction l with
    | nil => rfl
    | cons n l ih => simp only [List.map_cons, PyData.canLayAll0, ih, PyData.canLay0, Bool.and_self]
  have h2 : PyData.depthAll (ns.map .int) = 0 := PySem.W.depth_ints ns
  unfold SeqAt.shaped
  simp only [PyData.canLay0, PyData.depth, h1, h2]
  decide
section
variable {P : Program} {w : World} {K : PySem.W.Frag} {mg : Str → Option Value} {base : Heap}
theorem scB : FnScope ["script", "cells_so", "cell"] ["script"] (defScope sBegin) := ⟨rfl, rfl, rfl, by decide +kernel, rfl, by decide +kernel, by decide +kernel⟩
theorem ok_begin {f c : Addr} {fd : FuncData} (F : FunC K "_law_begin" "_law_begin" sBegin f fd c) (T : Blt mg) : FnG P w K mg base 1 f fd ["script"] (spBegin K) := by
  refine F.ok scB (fun vs H Q E h => ?_) (fun A outer s H vs Q hg hr h => ?_)
  · obtain ⟨_, _, rfl, _⟩ := h
    rfl
  · obtain ⟨a, ns, rfl, hS, h63, q⟩ := h
    have hu := hu_of hr
    refine ⟨_, pss_cons (ps_set (i := 1) scB.nd rfl (Or.inl rfl) (pe_ifExp (pt_cmpR (op_neD hr.units) (pv 0) (pe_lst pa_nil) (nomark _)) (pe_callTy call_list_of (by rfl) T.list (by decide +kernel) (pa_cons (pv 0) pa_nil)) (pe_lst (pa_cons pe_int pa_nil))))
      (pss_one (ps_ret (pe_disp (pps_cons pe_str (pv 1) (pps_cons pe_str
          (pe_lc (own := [("cell", 2)]) (g := gName 2) (tt := tYes) rfl scB.nd (pi_list (pv 1)) (blkOk_by (N := ["script", "cells_so", "cell"]) (sc := defScope sBegin) (by decide +kernel)) (fun _ _ _ _ _ => pg_name (i := 2) scB.nd rfl (Or.inl rfl)) (fun _ _ _ _ _ => pts_nil)
            (fun _ _ _ _ _ => pe_ifExp (pt_cmpR op_ge (pv 2) (pe_op op_pow pe_int pe_int) (nomark _)) (pv 2) pe_int)) (pps_cons pe_str pe_int pps_nil))) (by rfl) (by rfl) (fun z => by cases z) (by decide)))), ?_⟩
    refine ⟨_, rfl, by decide, fun e he => ⟨.list (ns.map .int), .list [], .lst ((Ext.new he).lst (S := []) (by simp) hS) (dp_ints _ _ ns), .lst SqL.new .nil, shaped_ints ns, rfl, _, rfl, ?_⟩⟩
    have x0 : Ext [] H (upd H e (.lst [])) := Ext.new he
    generalize hH0 : upd H e (.lst []) = H0 at x0
    have rest : ∀ (p : Addr) (cs : List Int) (H2 : Hp), H p = none → H2 p = some (.lst (cs.map V.int)) → 0 < cs.length → cs.length ≤ 63 → Ext [] H H2 →
        tRet (tDisp [(tC (.str "cells"), tVar 1), (tC (.str "lefts"), tLc (iList K (tVar 1)) (gName 2) tYes (tIf (tTest (tOp (rI0 fun i j => V.bl (decide (j ≤ i))) (tVar 2) (tOp (rI CPow fun i j => V.int (i ^ j.toNat)) (tC (.int 10)) (tC (.int 18))))) (tVar 2) (tC (.int 0))) [2]), (tC (.str "at"), tC (.int 0))])
          { nx := fun _ H' => Q .non H', rt := Q } [some (.ref a), some (.ref p), none] H2 := by
      intro p cs H2 hp h2 c0 c63 x2
      intro d hd
      refine ⟨_, rfl, ?_⟩
      have hpd : p ≠ d := ne_of_none h2 hd
      have hc1 : upd H2 d (.dK []) p = some (.lst (cs.map V.int)) := by rw [upd_ne hpd]; exact h2
      generalize hH3 : upd H2 d (.dK []) = H3 at hc1
      have hd3 : H3 d = some (.dK []) := by rw [← hH3]; exact upd_same
      have x3 : Ext [] H2 H3 := by rw [← hH3]; exact Ext.new hd
      refine ⟨_, rfl, p, rfl, ⟨_, .inl (.inl hc1)⟩, fun D hD => lc_list (K := K) (a := p) (xs := cs.map V.int) (fun i H' => H' = upd H3 D (.lst (((cs.take i).map big).map V.int))) rfl (fun i H' _ e => ?_) (fun i x H' hx e => ?_) (fun H' e => ?_)⟩
      · subst e
        exact (Ext.new (S := []) hD).lst (by simp) (.inl (.inl hc1))
      · subst e
        rw [List.getElem?_map] at hx
        cases ei : cs[i]? with
        | none => rw [ei] at hx; cases hx
        | some z =>
          rw [ei] at hx
          cases hx
          refine ⟨rfl, ?_⟩
          simp only [tYes, if_true]
          refine ⟨_, rfl, _, _, rfl, rfl, ⟨by decide, by decide, by decide⟩, _, _, rfl, rfl, _, rfl, ?_⟩
          have il := (List.getElem?_eq_some_iff.mp ei).1
          have tk : cs.take (i + 1) = cs.take i ++ [z] := by
            rw [List.take_add_one, ei]
            rfl
          refine ite2 (fun hz => ?_) (fun hz => ?_)
          · refine ⟨_, rfl, _, upd_same, ?_, ?_⟩
            · simp only [List.length_map, List.length_take]
              exact small1000 (by omega)
            · have hz' : z ≥ 10 ^ 18 := by simpa using hz
              rw [upd_upd, tk, List.map_append, List.map_append, List.map_singleton, List.map_singleton, big1 hz']
          · refine ⟨_, upd_same, ?_, ?_⟩
            · simp only [List.length_map, List.length_take]
              exact small1000 (by omega)
            · have hz' : ¬ z ≥ 10 ^ 18 := by simpa using hz
              rw [upd_upd, tk, List.map_append, List.map_append, List.map_singleton, List.map_singleton, big0 hz']
      · subst e
        rw [List.take_of_length_le (by simp)]
        have hDd : d ≠ D := ne_of_none hd3 hD
        have hpD : p ≠ D := ne_of_none hc1 hD
        refine ⟨by rw [upd_ne hDd]; exact hd3, stD p D 0, rfl, by show 3 ≤ 15; decide, ?_⟩
        have em : mergeK [] (stD p D 0) = stD p D 0 := by
          have e1 : ¬ (kAt = kCells) := by decide +kernel
          have e2 : ¬ (kAt = kLefts) := by decide +kernel
          have e3 : ¬ (kLefts = kCells) := by decide +kernel
          simp only [mergeK, stD, List.foldl_cons, List.foldl_nil, putK, List.any_nil, List.any_cons, Bool.false_eq_true, if_false, List.nil_append, decide_eq_false kne3, decide_eq_false kne1, decide_eq_false kne2, Bool.or_false, List.cons_append]
        rw [em]
        generalize hls : (cs.map big) = ls
        have hll : ls.length = cs.length := by rw [← hls, List.length_map]
        refine q d p D _ ⟨⟨cs, ls, 0, upd_same, (by rw [upd_ne hpd, upd_ne hpD]; exact hc1), by rw [upd_ne hDd.symm, upd_same], hll.symm, c0, c63, by omega, by omega⟩, hpD, hpd⟩ ?_
        · refine x2.then fun b o eb => ?_
          have n1 : b ≠ d := ne_of_none eb hd
          have e3 : H3 b = some o := by rw [← hH3, upd_ne n1]; exact eb
          rw [upd_ne n1, upd_ne (ne_of_none e3 hD)]
          exact e3
    cases ns with
    | nil =>
      refine iteF ⟨by decide, fun p hp => ?_⟩
      exact rest p [0] _ (by
        cases z : H p with
        | none => rfl
        | some o =>
          rw [← hH0, upd_ne (ne_of_none z he)] at hp
          rw [z] at hp
          cases hp) upd_same (by decide) (by decide) (x0.trans (.new hp))
    | cons n ns =>
      refine iteT ⟨_, rfl, a, _, rfl, .inl (x0.lst (by simp) hS), fun p hp => ?_⟩
      exact rest p (n :: ns) _ (by
        cases z : H p with
        | none => rfl
        | some o =>
          rw [← hH0, upd_ne (ne_of_none z he)] at hp
          rw [z] at hp
          cases hp) upd_same (Nat.succ_pos _) h63 (x0.trans (.new hp))
/-! ### _law_like -/
abbrev sLike : Stmt := top 30
def spLike (K : PySem.W.Frag) : Sp := fun vs H Q _ => ∃ (x y : V) (d : PyData), vs = [x, y] ∧ Dp K H x d ∧ Dp K H y d ∧ Shw d 10000000 60 ∧ Q (.bl true) H
theorem scK : FnScope ["got", "due"] ["got", "due"] (defScope sLike) := ⟨rfl, rfl, rfl, by decide +kernel, rfl, by decide +kernel, by decide +kernel⟩
theorem ok_like {f c : Addr} {fd : FuncData} (F : FunC K "_law_like" "_law_like" sLike f fd c) (T : Blt mg) : FnG P w K mg base 1 f fd ["got", "due"] (spLike K) := by
  refine F.ok scK (fun vs H Q E h => ?_) (fun A outer s H vs Q hg hr h => ?_)
  · obtain ⟨_, _, _, rfl, _⟩ := h
    rfl
  · obtain ⟨x, y, d, rfl, hx, hy, S, q⟩ := h
    refine ⟨_, pss_one (ps_ret (pe_cmpR op_eq (pe_callB (call_reprD (gu hg) hr) (by rfl) T.repr (by decide +kernel) (pa_cons (pv 0) pa_nil)) (pe_callB (call_reprD (gu hg) hr) (by rfl) T.repr (by decide +kernel) (pa_cons (pv 1) pa_nil)) (nomark _))), ?_⟩
    refine ⟨_, rfl, _, d, rfl, hx, S, _, rfl, _, d, rfl, hy, S, rfl, ?_⟩
    rw [decide_eq_true rfl]
    exact q
end

/-- ascending things below a count -/
structure LotOk (n : Int) (xs : List Int) : Prop where
  asc : xs.Pairwise (· < ·)
  bd : ∀ x ∈ xs, 0 ≤ x ∧ x < n
theorem LotOk.nil (n : Int) : LotOk n [] := ⟨.nil, fun x h => by cases h⟩
theorem LotOk.more {n : Int} {xs : List Int} (h : LotOk n xs) : LotOk (n + 1) xs := ⟨h.asc, fun x hx => by have := h.bd x hx; omega⟩
theorem LotOk.snoc {n : Int} {xs : List Int} (h : LotOk n xs) (h0 : 0 ≤ n) : LotOk (n + 1) (xs ++ [n]) :=
  ⟨List.pairwise_append.mpr ⟨h.asc, List.pairwise_singleton .., fun a ha b hb => by rw [List.mem_singleton.mp hb]; exact (h.bd a ha).2⟩,
    fun x hx => by
      rcases List.mem_append.mp hx with z | z
      · have := h.bd x z; omega
      · rw [List.mem_singleton.mp z]; omega⟩
theorem LotOk.len {n : Nat} {xs : List Int} (h : LotOk n xs) : xs.length ≤ n := by
  have : ∀ (n : Nat) (xs : List Int), LotOk n xs → xs.length ≤ n := by
    intro n
    induction n with
    | zero =>
      intro xs h
      cases xs with
      | nil => exact Nat.le_refl _
      | cons x xs => have := h.bd x List.mem_cons_self; omega
    | succ n ih =>
      intro xs h
      rcases List.eq_nil_or_concat xs with z | ⟨ys, y, z⟩
      · rw [z]; exact Nat.zero_le _
      · subst z
        have hp := List.pairwise_append.mp (by simpa using h.asc)
        have hy := h.bd y (by simp)
        have : LotOk n ys := ⟨hp.1, fun x hx => by
          have h1 := h.bd x (by simp [hx])
          have h2 := hp.2.2 x hx y (by simp)
          omega⟩
        have := ih ys this
        simp
        omega
  exact this n xs h

/-- tuples of ints at some addresses -/
inductive RowsAt (K : PySem.W.Frag) (H : Hp) : List Addr → List (List Int) → Prop
  | nil : RowsAt K H [] []
  | cons {t : Addr} {xs : List Int} {ts : List Addr} {xss : List (List Int)} : SqT K H t (xs.map V.int) → RowsAt K H ts xss → RowsAt K H (t :: ts) (xs :: xss)
section
variable {K : PySem.W.Frag} {H H' : Hp} {S : List Addr}
theorem RowsAt.ext (x : Ext S H H') : ∀ {ts xss}, RowsAt K H ts xss → RowsAt K H' ts xss
  | _, _, .nil => .nil
  | _, _, .cons h r => .cons (x.tup h) (RowsAt.ext x r)
theorem RowsAt.len : ∀ {ts xss}, RowsAt K H ts xss → ts.length = xss.length
  | _, _, .nil => rfl
  | _, _, .cons _ r => by simp [RowsAt.len r]
theorem RowsAt.append : ∀ {ts xss ts' xss'}, RowsAt K H ts xss → RowsAt K H ts' xss' → RowsAt K H (ts ++ ts') (xss ++ xss')
  | _, _, _, _, .nil, b => b
  | _, _, _, _, .cons h r, b => .cons h (RowsAt.append r b)
theorem RowsAt.get : ∀ {ts xss} {i : Nat} {t : Addr} {xs : List Int}, RowsAt K H ts xss → ts[i]? = some t → xss[i]? = some xs → SqT K H t (xs.map V.int)
  | _, _, 0, _, _, .cons h _, e1, e2 => by
    simp at e1 e2
    subst e1 e2
    exact h
  | _, _, i + 1, _, _, .cons _ r, e1, e2 => RowsAt.get (i := i) r (by simpa using e1) (by simpa using e2)
theorem RowsAt.at : ∀ {ts xss} {i : Nat} {xs : List Int}, RowsAt K H ts xss → xss[i]? = some xs → ∃ t, ts[i]? = some t ∧ SqT K H t (xs.map V.int) := fun {ts xss i xs} r e => by
  have hi : i < ts.length := by rw [r.len]; exact (List.getElem?_eq_some_iff.mp e).1
  exact ⟨ts[i], List.getElem?_eq_getElem hi, r.get (List.getElem?_eq_getElem hi) e⟩
theorem RowsAt.dps : ∀ {ts xss}, RowsAt K H ts xss → DpAll K H (ts.map V.ref) (xss.map fun xs => .tuple (xs.map .int))
  | _, _, .nil => .nil
  | _, _, .cons h r => .cons (.tup h (dp_ints K H _)) (RowsAt.dps r)
/-- a tuple of such -/
def TupsAt (K : PySem.W.Frag) (H : Hp) (a : Addr) (xss : List (List Int)) : Prop := ∃ ts : List Addr, SqT K H a (ts.map V.ref) ∧ RowsAt K H ts xss
theorem TupsAt.ext (x : Ext S H H') {a xss} (h : TupsAt K H a xss) : TupsAt K H' a xss := by
  obtain ⟨ts, h1, h2⟩ := h
  exact ⟨ts, x.tup h1, h2.ext x⟩
theorem TupsAt.dp {a xss} (h : TupsAt K H a xss) : Dp K H (.ref a) (.tuple (xss.map fun xs => .tuple (xs.map .int))) := by
  obtain ⟨ts, h1, h2⟩ := h
  exact .tup h1 h2.dps
/-- a drawing -/
def DrAt (K : PySem.W.Frag) (H : Hp) (t : Addr) (m : Nat) (ar ca : List (List Int)) : Prop := ∃ ta tc, SqT K H t [.int m, .ref ta, .ref tc] ∧ TupsAt K H ta ar ∧ TupsAt K H tc ca
theorem DrAt.ext (x : Ext S H H') {t m ar ca} (h : DrAt K H t m ar ca) : DrAt K H' t m ar ca := by
  obtain ⟨ta, tc, h1, h2, h3⟩ := h
  exact ⟨ta, tc, x.tup h1, h2.ext x, h3.ext x⟩
def drD (m : Nat) (ar ca : List (List Int)) : PyData := .tuple [.int m, .tuple (ar.map fun xs => .tuple (xs.map .int)), .tuple (ca.map fun xs => .tuple (xs.map .int))]
theorem DrAt.dp {t m ar ca} (h : DrAt K H t m ar ca) : Dp K H (.ref t) (drD m ar ca) := by
  obtain ⟨ta, tc, h1, h2, h3⟩ := h
  exact .tup h1 (.cons (.int _) (.cons h2.dp (.cons h3.dp .nil)))
end
/-- ascending rows of two things at least -/
structure RowsOk (m : Int) (xss : List (List Int)) : Prop where
  asc : xss.Pairwise (· < ·)
  row : ∀ xs ∈ xss, LotOk m xs ∧ 2 ≤ xs.length
structure DrOk (m : Nat) (ar ca : List (List Int)) : Prop where
  m1 : 1 ≤ m
  m10 : m ≤ 10
  ra : RowsOk m ar
  two : ∀ xs ∈ ar, xs.length = 2
  few : ar.length ≤ 100
  rc : RowsOk m ca
  c20 : ca.length ≤ 20
theorem lot_shw {m : Int} {xs : List Int} (h : LotOk m xs) (hm : m ≤ 10) : ∀ d ∈ xs.map PyData.int, Shw d 2000 0 := fun d hd => by
  obtain ⟨x, hx, rfl⟩ := List.mem_map.mp hd
  have := h.bd x hx
  exact .int (by omega)
theorem LotOk.len10 {m : Nat} {xs : List Int} (h : LotOk m xs) (hm : m ≤ 10) : xs.length ≤ 10 := Nat.le_trans h.len hm
theorem lotD_shw {m : Nat} {xs : List Int} (h : LotOk m xs) (hm : m ≤ 10) : Shw (.tuple (xs.map .int)) 30000 1 :=
  (Shw.tuple (m := 10) (lot_shw h (by omega)) (by rw [List.length_map]; exact h.len10 hm)).mono (by decide) (by decide)
theorem rows_shw {m : Nat} {xss : List (List Int)} (h : RowsOk m xss) (hm : m ≤ 10) (hl : xss.length ≤ 100) : Shw (.tuple (xss.map fun xs => .tuple (xs.map .int))) 3100000 2 :=
  (Shw.tuple (m := 100) (n := 30000) (k := 1) (fun d hd => by
    obtain ⟨x, hx, rfl⟩ := List.mem_map.mp hd
    exact lotD_shw (h.row x hx).1 hm) (by rw [List.length_map]; exact hl)).mono (by decide) (by decide)
theorem dr_shw {m : Nat} {ar ca : List (List Int)} (h : DrOk m ar ca) : Shw (drD m ar ca) 9400000 3 := by
  unfold drD
  refine Shw.mono (n' := 9400000) (k' := 3) (Shw.tuple (xs := [.int m, .tuple (ar.map fun xs => .tuple (xs.map .int)), .tuple (ca.map fun xs => .tuple (xs.map .int))]) (m := 3) (n := 3100000) (k := 2) (fun d hd => by
    rcases List.mem_cons.mp hd with z | hd
    · rw [z]; exact (Shw.int (by have := h.m10; omega)).mono (by decide) (by decide)
    · rcases List.mem_cons.mp hd with z | hd
      · rw [z]; exact rows_shw h.ra h.m10 h.few
      · rw [List.mem_singleton.mp hd]
        exact rows_shw h.rc h.m10 (Nat.le_trans h.c20 (by decide))) (by simp)) (by decide) (by decide)
theorem nodup_len {α : Type} [DecidableEq α] : ∀ {l m : List α}, l.Nodup → (∀ x ∈ l, x ∈ m) → l.length ≤ m.length
  | [], _, _, _ => Nat.zero_le _
  | x :: l, m, nd, h => by
    obtain ⟨hx, nd'⟩ := List.nodup_cons.mp nd
    have hm : x ∈ m := h x List.mem_cons_self
    have := nodup_len (l := l) (m := m.erase x) nd' fun y hy => by
      have hyx : y ≠ x := fun e => hx (e ▸ hy)
      exact (List.mem_erase_of_ne hyx).mpr (h y (List.mem_cons_of_mem _ hy))
    rw [List.length_erase_of_mem hm] at this
    have h0 : 0 < m.length := List.length_pos_of_mem hm
    simp only [List.length_cons]
    omega
theorem lexAt_shift {e r : Nat → Bool} {z : Bool} : ∀ (k i : Nat), Ob.lexAt e r z (i + 1) k = Ob.lexAt (fun j => e (j + 1)) (fun j => r (j + 1)) z i k
  | 0, _ => rfl
  | k + 1, i => by
    rw [Ob.lexAt_succ, Ob.lexAt_succ, lexAt_shift k (i + 1)]
theorem le_false : ∀ (ns ms : List Int), ms < ns → Ob.lexAt (fun j => decide (ns.getD j 0 = ms.getD j 0)) (fun j => decide (ns.getD j 0 ≤ ms.getD j 0)) (decide (ns.length ≤ ms.length)) 0 (min ns.length ms.length) = false
  | [], ms, h => by cases ms <;> simp at h
  | y :: ys, [], _ => by
    show decide (ys.length + 1 ≤ 0) = false
    simp
  | y :: ys, x :: xs, h => by
    have hm : min (y :: ys).length (x :: xs).length = min ys.length xs.length + 1 := by simp [Nat.succ_min_succ]
    rw [hm, Ob.lexAt_succ]
    rcases List.cons_lt_cons_iff.mp h with h1 | ⟨rfl, h1⟩
    · have e0 : decide ((y :: ys).getD 0 0 = (x :: xs).getD 0 0) = false := decide_eq_false (by show ¬ y = x; omega)
      have r0 : decide ((y :: ys).getD 0 0 ≤ (x :: xs).getD 0 0) = false := decide_eq_false (by show ¬ y ≤ x; omega)
      rw [e0, if_neg Bool.false_ne_true, r0]
    · have e0 : decide ((x :: ys).getD 0 0 = (x :: xs).getD 0 0) = true := decide_eq_true rfl
      rw [e0, if_pos rfl, lexAt_shift]
      have ih := le_false ys xs h1
      have hl : decide ((x :: ys).length ≤ (x :: xs).length) = decide (ys.length ≤ xs.length) := by simp
      rw [hl]
      exact ih

theorem ta_gen {t : TA} {σ : L2.St} {H : Hp} {Q : List V → Hp → Prop} (h : ∀ R : List V → Hp → Prop, (∀ vs H', Q vs H' → R vs H') → t σ H R) : t σ H Q := h Q fun _ _ z => z
theorem te_gen {t : TE} {σ : L2.St} {H : Hp} {Q : V → Hp → Prop} (h : ∀ R : V → Hp → Prop, (∀ v H', Q v H' → R v H') → t σ H R) : t σ H Q := h Q fun _ _ z => z
theorem cut4 (xs : List V) : cutV xs none (some 4) = xs.take 4 := by
  unfold cutV
  have e1 : HT.sIx xs.length 0 none = 0 := rfl
  have e2 : HT.sIx xs.length xs.length (some ((4 : Nat) : Int)) = min 4 xs.length := HT.sIx_nat _ _ 4
  have e3 : (4 : Int) = ((4 : Nat) : Int) := rfl
  rw [e3, e2, e1, List.drop_zero, Nat.sub_zero]
  rcases Nat.le_total 4 xs.length with h | h
  · rw [Nat.min_eq_left h]
  · rw [Nat.min_eq_right h, List.take_length, List.take_of_length_le h]
theorem LotOk.take {m : Int} {xs : List Int} (h : LotOk m xs) (k : Nat) : LotOk m (xs.take k) := ⟨h.asc.sublist (List.take_sublist _ _), fun x hx => h.bd x (List.mem_of_mem_take hx)⟩
theorem RowsAt.pairs {K : PySem.W.Frag} {H : Hp} : ∀ {ts xss}, RowsAt K H ts xss → ∃ ks : List (Addr × List Int), ks.map (fun p => V.ref p.1) = ts.map V.ref ∧ ks.map (·.2) = xss ∧ ∀ p ∈ ks, SqT K H p.1 (p.2.map V.int)
  | _, _, .nil => ⟨[], rfl, rfl, fun p h => by cases h⟩
  | _, _, .cons (t := t) (xs := xs) h r => by
    obtain ⟨ks, e1, e2, e3⟩ := RowsAt.pairs r
    refine ⟨(t, xs) :: ks, by simp [e1], by simp [e2], fun p hp => ?_⟩
    rcases List.mem_cons.mp hp with z | z
    · rw [z]; exact h
    · exact e3 p z
theorem rows_of {K : PySem.W.Frag} {H : Hp} : ∀ (L : List (Addr × List Int)), (∀ p ∈ L, SqT K H p.1 (p.2.map V.int)) → RowsAt K H (L.map (·.1)) (L.map (·.2))
  | [], _ => .nil
  | p :: L, h => .cons (h p List.mem_cons_self) (rows_of L fun q hq => h q (List.mem_cons_of_mem _ hq))
theorem strict : ∀ (L : List (Addr × List Int)), (L.map (·.2)).Nodup → L.Pairwise (fun q r => ¬ r.2 < q.2) → (L.map (·.2)).Pairwise (· < ·)
  | [], _, _ => .nil
  | p :: L, nd, pw => by
    obtain ⟨n1, n2⟩ := List.nodup_cons.mp nd
    obtain ⟨p1, p2⟩ := List.pairwise_cons.mp pw
    refine List.pairwise_cons.mpr ⟨fun y hy => ?_, strict L n2 p2⟩
    obtain ⟨q, hq, rfl⟩ := List.mem_map.mp hy
    have h1 := p1 q hq
    have hle : p.2 ≤ q.2 := List.not_lt.mp h1
    rcases List.le_iff_lt_or_eq.mp hle with z | z
    · exact z
    · rw [← z] at hy
      exact absurd hy n1
theorem seq_intro {t u : TS} {D : Ends} {σ : L2.St} {H : Hp} (h : t { D with nx := u D } σ H) : L2.tSeq t u D σ H := h
/-- arrows out of things below i -/
structure ArrOk (i m : Int) (ar : List (List Int)) : Prop where
  asc : ar.Pairwise (· < ·)
  row : ∀ xs ∈ ar, ∃ a b : Int, xs = [a, b] ∧ 0 ≤ a ∧ a < i ∧ a < b ∧ b < m
theorem ArrOk.add {i m : Int} {ar : List (List Int)} (h : ArrOk i m ar) (h0 : 0 ≤ i) {fs : List Int} (asc : fs.Pairwise (· < ·)) (bd : ∀ f ∈ fs, i < f ∧ f < m) : ArrOk (i + 1) m (ar ++ fs.map fun f => [i, f]) := by
  refine ⟨List.pairwise_append.mpr ⟨h.asc, List.pairwise_map.mpr (asc.imp fun {a b} hab => ?_), fun xs hx ys hy => ?_⟩, fun xs hx => ?_⟩
  · exact List.cons_lt_cons_iff.mpr (.inr ⟨rfl, List.cons_lt_cons_iff.mpr (.inl hab)⟩)
  · obtain ⟨a, b, rfl, h1, h2, h3, h4⟩ := h.row xs hx
    obtain ⟨f, hf, rfl⟩ := List.mem_map.mp hy
    exact List.cons_lt_cons_iff.mpr (.inl h2)
  · rcases List.mem_append.mp hx with z | z
    · obtain ⟨a, b, rfl, h1, h2, h3, h4⟩ := h.row xs z
      exact ⟨a, b, rfl, h1, by omega, h3, h4⟩
    · obtain ⟨f, hf, rfl⟩ := List.mem_map.mp z
      have := bd f hf
      exact ⟨i, f, rfl, h0, by omega, by omega, by omega⟩
theorem ArrOk.rows {i m : Int} {ar : List (List Int)} (h : ArrOk i m ar) : RowsOk m ar ∧ ∀ xs ∈ ar, xs.length = 2 := by
  refine ⟨⟨h.asc, fun xs hx => ?_⟩, fun xs hx => ?_⟩
  · obtain ⟨a, b, rfl, h1, h2, h3, h4⟩ := h.row xs hx
    refine ⟨⟨by simpa using h3, fun x hx => ?_⟩, by simp⟩
    rcases List.mem_cons.mp hx with z | z
    · omega
    · rw [List.mem_singleton.mp z]; omega
  · obtain ⟨a, b, rfl, h1, h2, h3, h4⟩ := h.row xs hx
    rfl

theorem for_enumT {K : PySem.W.Frag} {a : Addr} {xs : List V} {g : TG} {tb : TS} {D : Ends} {σ : L2.St} {H : Hp} (Pv : Nat → L2.St → Hp → Prop) (h0 : Pv 0 σ H) (hq : ∀ i σ H, i ≤ xs.length → Pv i σ H → SqT K H a xs)
    (hs : ∀ i x T σ H, xs[i]? = some x → Pv i σ H → H T = none → g (.ref T) σ (upd H T (.tup [.int (i : Nat), x])) fun σ2 H2 => tb { D with nx := Pv (i + 1), ct := Pv (i + 1), bk := D.nx } σ2 H2) (hd : ∀ σ H, Pv xs.length σ H → D.nx σ H) :
    ∃ W : Nat → Nat → L2.St → Hp → Prop, (∃ m, W 0 m σ H) ∧ ∀ i m σ H, W i m σ H →
      ((IteT K a).stop i H ∧ D.nx σ H) ∨ ((IteT K a).go i H ∧ ∃ N : L2.St → Hp → Prop, (∀ σ' H', N σ' H' → ∃ m', m' < m ∧ W (i + 1) m' σ' H') ∧ ∀ x H', (IteT K a).yld i H x H' → g x σ H' fun σ2 H2 => tb { D with nx := N, ct := N, bk := D.nx } σ2 H2) := by
  refine ⟨fun i m σ H => m = xs.length - i ∧ i ≤ xs.length ∧ Pv i σ H, ⟨_, rfl, Nat.zero_le _, h0⟩, ?_⟩
  rintro i m σ H ⟨rfl, hi, p⟩
  have sq := hq i σ H hi p
  rcases Nat.lt_or_ge i xs.length with hlt | hge
  · refine .inr ⟨⟨xs, xs[i], sq, List.getElem?_eq_getElem hlt⟩, Pv (i + 1), fun σ' H' p' => ⟨_, by omega, rfl, hlt, p'⟩, fun x H' hy => ?_⟩
    obtain ⟨T, x', rfl, hT, rfl, hx⟩ := hy
    exact hs i x' T σ H (hx xs sq) p hT
  · have e : i = xs.length := by omega
    subst e
    exact .inl ⟨⟨xs, sq, rfl⟩, hd σ H p⟩
theorem inV_int (x : Int) : ∀ xs : List Int, inV (.int x) (xs.map V.int) = decide (x ∈ xs)
  | [] => by simp [inV]
  | y :: ys => by
    have ih := inV_int x ys
    unfold inV at ih ⊢
    rw [List.map_cons, List.any_cons, ih]
    show ((y == x) || decide (x ∈ ys)) = decide (x ∈ y :: ys)
    by_cases h : y = x
    · subst h; simp
    · have h' : ¬ x = y := fun z => h z.symm
      simp [h, h']
theorem flat_ints (xs : List Int) : (xs.map V.int).all flatV = true := by
  rw [List.all_eq_true]
  intro v hv
  obtain ⟨x, _, rfl⟩ := List.mem_map.mp hv
  rfl
abbrev sTupOf : Stmt := top 5
abbrev sInt : Stmt := top 6
abbrev sIsLot : Stmt := top 7
def spTupOf (K : PySem.W.Frag) : Sp := fun vs H Q _ => ∃ (a : Addr) (xs : List V) (n : Int), vs = [.ref a, .int n] ∧ SqT K H a xs ∧ Q (.bl (decide ((xs.length : Int) = n))) H
def spInt : Sp := fun vs H Q _ => ∃ v a b : Int, vs = [.int v, .int a, .int b] ∧ Q (.bl (decide (a ≤ v ∧ v ≤ b))) H
def spIsLot (K : PySem.W.Frag) : Sp := fun vs H Q _ => ∃ (n : Int) (a : Addr) (xs : List Int), vs = [.int n, .ref a] ∧ SqT K H a (xs.map V.int) ∧ LotOk n xs ∧ Q (.bl true) H
section
variable {P : Program} {w : World} {K : PySem.W.Frag} {mg : Str → Option Value} {base : Heap}
theorem sc6 : FnScope ["value", "many"] ["value", "many"] (defScope sTupOf) := ⟨rfl, rfl, rfl, by decide +kernel, rfl, by decide +kernel, by decide +kernel⟩
theorem ok_tupOf {f c : Addr} {fd : FuncData} (F : FunC K "is_tuple_of" "is_tuple_of" sTupOf f fd c) (T : Blt mg) : FnG P w K mg base 1 f fd ["value", "many"] (spTupOf K) := by
  refine F.ok sc6 (fun vs H Q E h => ?_) (fun A outer s H vs Q hg hr h => ?_)
  · obtain ⟨_, _, _, rfl, _⟩ := h
    rfl
  · obtain ⟨a, xs, n, rfl, hs, q⟩ := h
    refine ⟨_, pss_one (ps_ret (pe_and (pe_cmpR op_isTyB (pe_callTy call_type1 (by rfl) T.type (by decide +kernel) (pa_cons (pv 0) pa_nil)) (pe_bltn (v := .ty "tuple") (by rfl) T.tuple (by decide +kernel) rfl) (nomark _))
      (pe_one (pe_cmpR op_eq (pe_callB call_len_seq (by rfl) T.len PySem.boot_len (pa_cons (pv 0) pa_nil)) (pv 1) (nomark _))))), ?_⟩
    refine ⟨_, rfl, _, _, rfl, .tup hs, _, _, rfl, rfl, _, rfl, ?_⟩
    rw [decide_eq_true rfl]
    refine iteT ⟨_, rfl, a, _, rfl, .inr hs, _, rfl, rfl, ?_⟩
    have e : decide (V.int (xs.length : Int) = V.int n) = decide ((xs.length : Int) = n) := by
      by_cases h : (xs.length : Int) = n
      · simp [h]
      · simp [h]
    rw [e]
    exact q
theorem sc7 : FnScope ["value", "least", "most"] ["value", "least", "most"] (defScope sInt) := ⟨rfl, rfl, rfl, by decide +kernel, rfl, by decide +kernel, by decide +kernel⟩
theorem ok_int {f c : Addr} {fd : FuncData} (F : FunC K "is_integer" "is_integer" sInt f fd c) (T : Blt mg) : FnG P w K mg base 1 f fd ["value", "least", "most"] spInt := by
  refine F.ok sc7 (fun vs H Q E h => ?_) (fun A outer s H vs Q hg hr h => ?_)
  · obtain ⟨_, _, _, rfl, _⟩ := h
    rfl
  · obtain ⟨v, a, b, rfl, q⟩ := h
    refine ⟨_, pss_one (ps_ret (pe_and (pe_cmpR op_isTyB (pe_callTy call_type1 (by rfl) T.type (by decide +kernel) (pa_cons (pv 0) pa_nil)) (pe_bltn (v := .ty "int") (by rfl) T.int (by decide +kernel) rfl) (nomark _))
      (pe_one (pe_chain op_le op_le (pv 1) (pv 0) (pv 2))))), ?_⟩
    refine ⟨_, rfl, _, _, rfl, .int _, _, _, rfl, rfl, _, rfl, ?_⟩
    rw [decide_eq_true rfl]
    refine iteT ⟨_, rfl, _, rfl, _, _, rfl, rfl, _, rfl, ?_⟩
    by_cases h1 : a ≤ v
    · rw [decide_eq_true h1]
      refine iteT ⟨_, rfl, _, _, rfl, rfl, ?_⟩
      have e : decide (a ≤ v ∧ v ≤ b) = decide (v ≤ b) := by simp [h1]
      rw [e] at q
      exact q
    · rw [decide_eq_false h1]
      refine iteF ?_
      have e : decide (a ≤ v ∧ v ≤ b) = false := by simp [h1]
      rw [e] at q
      exact q
theorem sc8 : FnScope ["count", "value", "least", "thing"] ["count", "value"] (defScope sIsLot) := ⟨rfl, rfl, rfl, by decide +kernel, rfl, by decide +kernel, by decide +kernel⟩
theorem ok_isLot {f c fI : Addr} {fd fdI : FuncData} (F : FunC K "is_lot" "is_lot" sIsLot f fd c) (T : Blt mg) (GI : FnG P w K mg base 1 fI fdI ["value", "least", "most"] spInt) (kI : PySem.W.keepIn K (.ref fI) = true) (bI : Binds K fdI ["value", "least", "most"] []) (mI : mg "is_integer" = some (.ref fI)) :
    FnG P w K mg base 2 f fd ["count", "value"] (spIsLot K) := by
  refine F.ok sc8 (fun vs H Q E h => ?_) (fun A outer s H vs Q hg hr h => ?_)
  · obtain ⟨_, _, _, rfl, _⟩ := h
    rfl
  · obtain ⟨n, a, xs, rfl, hs, hl, q⟩ := h
    refine ⟨_, pss_cons (ps_if (pt_cmpR op_notTyB (pe_callTy call_type1 (by rfl) T.type (by decide +kernel) (pa_cons (pv 1) pa_nil)) (pe_bltn (v := .ty "tuple") (by rfl) T.tuple (by decide +kernel) rfl) (nomark _)) (pss_one (ps_ret pe_bl)) pss_nil)
      (pss_cons (ps_set (i := 2) sc8.nd rfl (Or.inl rfl) pe_int)
      (pss_cons (ps_for PassesOwn.never rfl (pi_tup (pv 1)) (pg_name (i := 3) sc8.nd rfl (Or.inl rfl))
        (pss_cons (ps_if (pt_not (pt_val (pg_call GI (gu hg) (hr.mono (by decide)) (by rfl) mI kI bI (pa_cons (pv 3) (pa_cons (pv 2) (pa_cons (pe_op op_sub (pv 0) pe_int) pa_nil)))))) (pss_one (ps_ret pe_bl)) pss_nil)
        (pss_one (ps_set (i := 2) sc8.nd rfl (Or.inl rfl) (pe_op op_add (pv 3) pe_int)))))
      (pss_one (ps_ret pe_bl)))), ?_⟩
    refine ⟨_, rfl, _, _, rfl, .tup hs, _, _, rfl, rfl, _, rfl, ?_⟩
    rw [decide_eq_true rfl]
    refine iteF ?_
    refine ⟨_, rfl, a, rfl, ⟨_, hs⟩, for_tup (K := K) (a := a) (xs := xs.map V.int) (fun i σ H' => H' = H ∧ ∃ (least : Int) (tv : Option V), σ = [some (.int n), some (.ref a), some (.int least), tv] ∧ ∀ x ∈ xs.drop i, least ≤ x) ⟨rfl, 0, none, rfl, fun x hx => (hl.bd x (List.mem_of_mem_drop hx)).1⟩ (fun i σ H' _ ⟨e, _⟩ => e ▸ hs) ?_ ?_⟩
    · rintro i y σ H' hi ⟨rfl, least, tv, rfl, hle⟩
      rw [List.getElem?_map] at hi
      cases ei : xs[i]? with
      | none => rw [ei] at hi; cases hi
      | some x =>
        rw [ei] at hi
        cases hi
        have hil := (List.getElem?_eq_some_iff.mp ei).1
        have ed : xs.drop i = x :: xs.drop (i + 1) := by
          rw [List.drop_eq_getElem_cons hil]
          rw [List.getElem?_eq_getElem hil] at ei
          cases ei
          rfl
        have hx : least ≤ x := hle x (by rw [ed]; exact List.mem_cons_self)
        have hb := hl.bd x (List.mem_of_getElem? ei)
        refine ⟨_, rfl, _, rfl, _, rfl, _, _, rfl, rfl, ⟨_, _, _, rfl, _, rfl, ?_⟩⟩
        rw [decide_eq_true (show least ≤ x ∧ x ≤ n - 1 by omega)]
        refine iteF ⟨_, rfl, _, _, rfl, rfl, rfl, _, _, rfl, fun z hz => ?_⟩
        have hp : (xs.drop i).Pairwise (· < ·) := hl.asc.sublist (List.drop_sublist _ _)
        rw [ed] at hp
        have := (List.pairwise_cons.mp hp).1 z hz
        omega
    · rintro σ H' ⟨rfl, least, tv, rfl, hle⟩
      exact q
end

def retE : Stmt → Expr
  | .Return (some e) _ => e
  | _ => .Constant .none 0 ⟨0, 0, 0, 0⟩
def arg0 : Expr → Expr
  | .Call _ (a :: _) _ _ => a
  | _ => .Constant .none 0 ⟨0, 0, 0, 0⟩
def gSc : Expr → Scope
  | .GeneratorExp _ _ sc _ => sc
  | _ => { kind := .function, names := [], isGenerator := false, isCoroutine := false }
def stm (s : Stmt) (j : Nat) : Stmt := (defBody s).getD j (.Pass ⟨0, 0, 0, 0⟩)
/-- arrows as pairs -/
def prL (ps : List (Int × Int)) : List (List Int) := ps.map fun p => [p.1, p.2]
def prV (ps : List (Int × Int)) : List (V × V) := ps.map fun p => (V.int p.1, V.int p.2)
theorem pairs_at {K : PySem.W.Frag} {H : Hp} {a : Addr} {ps : List (Int × Int)} (h : TupsAt K H a (prL ps)) : PairsAt K H a (prV ps) := by
  obtain ⟨ts, h1, h2⟩ := h
  refine ⟨ts, h1, by rw [h2.len]; simp [prL, prV], fun j t p et ep => ?_⟩
  unfold prV at ep
  rw [List.getElem?_map] at ep
  cases e : ps[j]? with
  | none => rw [e] at ep; cases ep
  | some q =>
    rw [e] at ep
    cases ep
    have e2 : (prL ps)[j]? = some [q.1, q.2] := by
      unfold prL
      rw [List.getElem?_map, e]
      rfl
    exact h2.get et e2
def parsOf (ps : List (Int × Int)) (lot : List Int) (t : Int) : List Int := (ps.filter fun p => decide (p.2 = t) && decide (p.1 ∈ lot)).map (·.1)
def chisOf (ps : List (Int × Int)) (lot : List Int) (t : Int) : List Int := (ps.filter fun p => decide (p.1 = t) && decide (p.2 ∈ lot)).map (·.2)
def causOf (ca : List (List Int)) (t : Int) : List Int := (ca.zipIdx.filter fun p => decide (t ∈ p.1)).map fun p => (p.2 : Int)
def pz2 (q : Int → Int → Bool) : V × V → Bool
  | (.int a, .int b) => q a b
  | _ => false
theorem pick {q : Int → Int → Bool} {F : V × V → V} {G : Int × Int → Int} (h : ∀ p : Int × Int, F (.int p.1, .int p.2) = .int (G p)) (ps : List (Int × Int)) :
    ((prV ps).filter (pz2 q)).map F = ((ps.filter fun p => q p.1 p.2).map G).map V.int := by
  induction ps with
  | nil => rfl
  | cons p ps ih =>
    have e : prV (p :: ps) = (V.int p.1, V.int p.2) :: prV ps := rfl
    rw [e, List.filter_cons, List.filter_cons]
    show (if q p.1 p.2 = true then _ else _ : List (V × V)).map F = _
    cases q p.1 p.2 with
    | true => simp only [if_true, List.map_cons, h, ih]
    | false => simpa using ih
theorem prV_mem {ps : List (Int × Int)} {x : V × V} (h : x ∈ prV ps) : ∃ a b : Int, x = (.int a, .int b) := by
  obtain ⟨p, _, rfl⟩ := List.mem_map.mp h
  exact ⟨_, _, rfl⟩
theorem caus_pick {ts : List Addr} {ca : List (List Int)} {t : Int} (hl : ts.length = ca.length) :
    (((ts.map V.ref).zipIdx.map fun p => ((V.int (p.2 : Nat), p.1) : V × V)).filter fun p => match p with | (.int i, _) => (ca[i.toNat]?.map fun xs => decide (t ∈ xs)).getD false | _ => false).map (fun p => p.1) = (causOf ca t).map V.int := by
  let pr : Nat → Bool := fun j => (ca[j]?.map fun xs => decide (t ∈ xs)).getD false
  have h1 : ∀ l : List (V × Nat), ((l.map fun p => ((V.int (p.2 : Nat), p.1) : V × V)).filter fun p => match p with | (.int i, _) => (ca[i.toNat]?.map fun xs => decide (t ∈ xs)).getD false | _ => false).map (fun p => p.1) = ((l.map (·.2)).filter pr).map fun j : Nat => V.int (j : Int) := by
    intro l
    induction l with
    | nil => rfl
    | cons p l ih =>
      rw [List.map_cons, List.map_cons, List.filter_cons, List.filter_cons]
      show (if pr ((p.2 : Nat) : Int).toNat = true then _ else _ : List (V × V)).map _ = _
      rw [Int.toNat_natCast]
      cases pr p.2 with
      | true => simp only [if_true, List.map_cons, ih]
      | false => simpa using ih
  have h2 : ∀ l : List (List Int × Nat), (∀ p ∈ l, ca[p.2]? = some p.1) → ((l.filter fun p => decide (t ∈ p.1)).map fun p => (p.2 : Int)) = ((l.map (·.2)).filter pr).map fun j : Nat => (j : Int) := by
    intro l
    induction l with
    | nil => intro _; rfl
    | cons p l ih =>
      intro h
      have ih' := ih fun q hq => h q (List.mem_cons_of_mem _ hq)
      rw [List.map_cons, List.filter_cons, List.filter_cons]
      have e : pr p.2 = decide (t ∈ p.1) := by
        show (ca[p.2]?.map fun xs => decide (t ∈ xs)).getD false = _
        rw [h p List.mem_cons_self]
        rfl
      rw [e]
      cases decide (t ∈ p.1) with
      | true => simp only [if_true, List.map_cons, ih']
      | false => simpa using ih'
  rw [h1]
  unfold causOf
  rw [h2 ca.zipIdx fun p hp => by
    have := List.mem_zipIdx hp
    simp only [Nat.sub_zero] at this
    rw [this.2.2]
    exact List.getElem?_eq_getElem _]
  rw [List.map_map]
  have e1 : (ts.map V.ref).zipIdx.map (·.2) = ca.zipIdx.map (·.2) := by
    rw [List.zipIdx_map_snd, List.zipIdx_map_snd, List.length_map, hl]
  rw [e1]
  rfl
theorem sizeL {n : Nat} (h : n ≤ 1000) : n ≤ sizeLine := Nat.le_of_lt (small1000 h)

abbrev sNDr : Stmt := top 16
abbrev sNAr : Stmt := top 17
abbrev sNCa : Stmt := top 18
abbrev sNLo : Stmt := top 19
def spNAr (K : PySem.W.Frag) : Sp := fun vs H Q _ => ∃ (n : Int) (a : Addr) (xss : List (List Int)), vs = [.int n, .ref a] ∧ TupsAt K H a xss ∧ RowsOk n xss ∧ (∀ xs ∈ xss, xs.length = 2) ∧ ∀ H', Ext [] H H' → Q .non H'
def spNCa (K : PySem.W.Frag) : Sp := fun vs H Q _ => ∃ (n : Int) (a : Addr) (xss : List (List Int)), vs = [.int n, .ref a] ∧ TupsAt K H a xss ∧ RowsOk n xss ∧ xss.length ≤ 20 ∧ ∀ H', Ext [] H H' → Q .non H'
def spNDr (K : PySem.W.Frag) : Sp := fun vs H Q _ => ∃ (t : Addr) (m : Nat) (ar ca : List (List Int)), vs = [.ref t] ∧ DrAt K H t m ar ca ∧ DrOk m ar ca ∧ ∀ H', Ext [] H H' → Q (.ref t) H'
def spNLo (K : PySem.W.Frag) : Sp := fun vs H Q _ => ∃ (t b : Addr) (m : Nat) (ar ca : List (List Int)) (lot : List Int), vs = [.ref t, .ref b] ∧ DrAt K H t m ar ca ∧ DrOk m ar ca ∧ SqT K H b (lot.map V.int) ∧ LotOk m lot ∧ ∀ H', Ext [] H H' → Q (.ref b) H'
/-- what the program's numbers are -/
structure Nums (mg : Str → Option Value) : Prop where
  th : ∃ t, mg "_MOST_THINGS" = some (.int 10 t)
  ca : ∃ t, mg "MOST_CAUSES" = some (.int 20 t)
/-- a def that may be called -/
structure CalG (P : Program) (w : World) (K : PySem.W.Frag) (mg : Str → Option Value) (base : Heap) (k : Nat) (x : Str) (f : Addr) (fd : FuncData) (ps : List Str) (sp : Sp) : Prop where
  g : FnG P w K mg base k f fd ps sp
  k : PySem.W.keepIn K (.ref f) = true
  b : Binds K fd ps []
  m : mg x = some (.ref f)
section
variable {P : Program} {w : World} {K : PySem.W.Frag} {mg : Str → Option Value} {base : Heap}
theorem drop_get {α : Type} {xs : List α} {i : Nat} {x : α} (h : xs[i]? = some x) : xs.drop i = x :: xs.drop (i + 1) := by
  have hi := (List.getElem?_eq_some_iff.mp h).1
  rw [List.drop_eq_getElem_cons hi]
  rw [List.getElem?_eq_getElem hi] at h
  cases h
  rfl
theorem sc16 : FnScope ["count", "arrows", "ahead", "at", "arrow"] ["count", "arrows"] (defScope sNAr) := ⟨rfl, rfl, rfl, by decide +kernel, rfl, by decide +kernel, by decide +kernel⟩
theorem ok_nar {f c fL : Addr} {fd fdL : FuncData} (F : FunC K "_need_arrows" "_need_arrows" sNAr f fd c) (T : Blt mg) (CL : CalG P w K mg base 2 "is_lot" fL fdL ["count", "value"] (spIsLot K)) : FnG P w K mg base 3 f fd ["count", "arrows"] (spNAr K) := by
  refine F.ok sc16 (fun vs H Q E h => ?_) (fun A outer s H vs Q hg hr h => ?_)
  · obtain ⟨_, _, _, rfl, _⟩ := h
    rfl
  · obtain ⟨n, a, xss, rfl, ha, ho, h2, q⟩ := h
    refine ⟨_, pss_cons (ps_if (pt_cmpR op_notTyB (pe_callTy call_type1 (by rfl) T.type (by decide +kernel) (pa_cons (pv 1) pa_nil)) (pe_bltn (v := .ty "tuple") (by rfl) T.tuple (by decide +kernel) rfl) (nomark _)) (pss_one ps_never) pss_nil)
      (pss_cons (ps_set (i := 2) sc16.nd rfl (Or.inl rfl) (pe_tup pa_nil))
      (pss_one (ps_for PassesOwn.never rfl (pi_enumT (by rfl) T.enumerate (pa_cons (pv 1) pa_nil)) (pg_tup rfl (pgs_cons (pg_name (i := 3) sc16.nd rfl (Or.inl rfl)) (pgs_cons (pg_name (i := 4) sc16.nd rfl (Or.inl rfl)) pgs_nil)))
        (pss_cons (ps_if (PW.pt (pw_or (pt_not (pt_val (pg_call CL.g (gu hg) (hr.mono (by decide)) (by rfl) CL.m CL.k CL.b (pa_cons (pv 0) (pa_cons (pv 4) pa_nil)))))
            (pw_or (pt_cmpR op_ne (pe_callB call_len_seq (by rfl) T.len PySem.boot_len (pa_cons (pv 4) pa_nil)) pe_int (nomark _))
            (pw_or1 (pt_cmpR (op_leT hr.units0) (pv 4) (pv 2) (nomark _)))))) (pss_one ps_never) pss_nil)
        (pss_one (ps_set (i := 2) sc16.nd rfl (Or.inl rfl) (pv 4))))))), ?_⟩
    obtain ⟨ts, h1, hrw⟩ := id ha
    refine ⟨_, rfl, _, _, rfl, .tup h1, _, _, rfl, rfl, _, rfl, ?_⟩
    rw [decide_eq_true rfl]
    refine iteF ⟨by decide, fun p hp => ?_⟩
    have e1 : Ext [] H (upd H p (.tup [])) := .new hp
    refine ⟨_, rfl, a, _, rfl, e1.tup h1, for_enumT (xs := ts.map V.ref) (fun i σ H' => Ext [] H H' ∧ ∃ (ah : Addr) (av : List Int) (v3 v4 : Option V), σ = [some (.int n), some (.ref a), some (.ref ah), v3, v4] ∧ SqT K H' ah (av.map V.int) ∧ ∀ xs ∈ xss.drop i, av < xs)
      ⟨e1, p, [], none, none, rfl, SqT.new, fun xs hx => ?_⟩ (fun i σ H' _ ⟨e, _⟩ => e.tup h1) ?_ ?_⟩
    · have := (ho.row xs (List.mem_of_mem_drop hx)).2
      cases xs with
      | nil => exact absurd this (by decide)
      | cons x xs => exact List.nil_lt_cons ..
    · rintro i x T' σ H' hi ⟨e, ah, av, v3, v4, rfl, hah, hlt⟩ hT
      rw [List.getElem?_map] at hi
      cases et : ts[i]? with
      | none => rw [et] at hi; cases hi
      | some tt =>
        rw [et] at hi
        cases hi
        have hil : i < xss.length := by rw [← hrw.len]; exact (List.getElem?_eq_some_iff.mp et).1
        have ex := List.getElem?_eq_getElem hil
        generalize xss[i] = xs at ex
        have hm := List.mem_of_getElem? ex
        have e2 : Ext [] H' (upd H' T' (.tup [.int (i : Nat), .ref tt])) := .new hT
        have ht := (e.trans e2).tup (hrw.get et ex)
        have hxs := ho.row xs hm
        have hd := drop_get ex
        have lt := hlt xs (by rw [hd]; exact List.mem_cons_self)
        refine ⟨T', _, rfl, SqT.new, rfl, _, _, rfl, _, _, rfl, rfl, ?_⟩
        refine ⟨_, rfl, _, rfl, n, tt, xs, rfl, ht, hxs.1, _, rfl, ?_⟩
        refine iteF ⟨_, rfl, tt, _, rfl, .inr ht, rfl, _, rfl, ?_⟩
        rw [List.length_map, h2 xs hm]
        refine iteF ⟨_, rfl, _, rfl, tt, ah, xs, av, rfl, rfl, ht, e2.tup hah, _, rfl, ?_⟩
        rw [le_false xs av lt]
        refine iteF ⟨_, rfl, e.trans e2, tt, xs, _, _, rfl, ht, fun ys hy => ?_⟩
        have hp' : (xss.drop i).Pairwise (· < ·) := ho.asc.sublist (List.drop_sublist _ _)
        rw [hd] at hp'
        exact (List.pairwise_cons.mp hp').1 ys hy
    · rintro σ H' ⟨e, _⟩
      exact q H' e
theorem sc17 : FnScope ["count", "causes", "ahead", "at", "cause"] ["count", "causes"] (defScope sNCa) := ⟨rfl, rfl, rfl, by decide +kernel, rfl, by decide +kernel, by decide +kernel⟩
theorem ok_nca {f c fL : Addr} {fd fdL : FuncData} (F : FunC K "_need_causes" "_need_causes" sNCa f fd c) (T : Blt mg) (N : Nums mg) (CL : CalG P w K mg base 2 "is_lot" fL fdL ["count", "value"] (spIsLot K)) : FnG P w K mg base 3 f fd ["count", "causes"] (spNCa K) := by
  refine F.ok sc17 (fun vs H Q E h => ?_) (fun A outer s H vs Q hg hr h => ?_)
  · obtain ⟨_, _, _, rfl, _⟩ := h
    rfl
  · obtain ⟨n, a, xss, rfl, ha, ho, h20, q⟩ := h
    obtain ⟨tk, hN⟩ := N.ca
    refine ⟨_, pss_cons (ps_if (PW.pt (pw_or (pt_cmpR op_notTyB (pe_callTy call_type1 (by rfl) T.type (by decide +kernel) (pa_cons (pv 1) pa_nil)) (pe_bltn (v := .ty "tuple") (by rfl) T.tuple (by decide +kernel) rfl) (nomark _)) (pw_or1 (pt_cmpR op_gt (pe_callB call_len_seq (by rfl) T.len PySem.boot_len (pa_cons (pv 1) pa_nil)) (pe_glob (v := .int 20) (by rfl) hN ⟨_, rfl⟩) (nomark _))))) (pss_one ps_never) pss_nil)
      (pss_cons (ps_set (i := 2) sc17.nd rfl (Or.inl rfl) (pe_tup pa_nil))
      (pss_one (ps_for PassesOwn.never rfl (pi_enumT (by rfl) T.enumerate (pa_cons (pv 1) pa_nil)) (pg_tup rfl (pgs_cons (pg_name (i := 3) sc17.nd rfl (Or.inl rfl)) (pgs_cons (pg_name (i := 4) sc17.nd rfl (Or.inl rfl)) pgs_nil)))
        (pss_cons (ps_if (PW.pt (pw_or (pt_not (pt_val (pg_call CL.g (gu hg) (hr.mono (by decide)) (by rfl) CL.m CL.k CL.b (pa_cons (pv 0) (pa_cons (pv 4) pa_nil)))))
            (pw_or (pt_cmpR op_lt (pe_callB call_len_seq (by rfl) T.len PySem.boot_len (pa_cons (pv 4) pa_nil)) pe_int (nomark _))
            (pw_or1 (pt_cmpR (op_leT hr.units0) (pv 4) (pv 2) (nomark _)))))) (pss_one ps_never) pss_nil)
        (pss_one (ps_set (i := 2) sc17.nd rfl (Or.inl rfl) (pv 4))))))), ?_⟩
    obtain ⟨ts, h1, hrw⟩ := id ha
    refine ⟨_, rfl, _, _, rfl, .tup h1, _, _, rfl, rfl, _, rfl, ?_⟩
    rw [decide_eq_true rfl]
    refine iteF ⟨_, rfl, a, _, rfl, .inr h1, _, _, rfl, rfl, _, rfl, ?_⟩
    rw [decide_eq_false (show ¬ (20 : Int) < ((ts.map V.ref).length : Int) by rw [List.length_map, hrw.len]; omega)]
    refine iteF ⟨by decide, fun p hp => ?_⟩
    have e1 : Ext [] H (upd H p (.tup [])) := .new hp
    refine ⟨_, rfl, a, _, rfl, e1.tup h1, for_enumT (xs := ts.map V.ref) (fun i σ H' => Ext [] H H' ∧ ∃ (ah : Addr) (av : List Int) (v3 v4 : Option V), σ = [some (.int n), some (.ref a), some (.ref ah), v3, v4] ∧ SqT K H' ah (av.map V.int) ∧ ∀ xs ∈ xss.drop i, av < xs)
      ⟨e1, p, [], none, none, rfl, SqT.new, fun xs hx => ?_⟩ (fun i σ H' _ ⟨e, _⟩ => e.tup h1) ?_ ?_⟩
    · have := (ho.row xs (List.mem_of_mem_drop hx)).2
      cases xs with
      | nil => exact absurd this (by decide)
      | cons x xs => exact List.nil_lt_cons ..
    · rintro i x T' σ H' hi ⟨e, ah, av, v3, v4, rfl, hah, hlt⟩ hT
      rw [List.getElem?_map] at hi
      cases et : ts[i]? with
      | none => rw [et] at hi; cases hi
      | some tt =>
        rw [et] at hi
        cases hi
        have hil : i < xss.length := by rw [← hrw.len]; exact (List.getElem?_eq_some_iff.mp et).1
        have ex := List.getElem?_eq_getElem hil
        generalize xss[i] = xs at ex
        have hm := List.mem_of_getElem? ex
        have e2 : Ext [] H' (upd H' T' (.tup [.int (i : Nat), .ref tt])) := .new hT
        have ht := (e.trans e2).tup (hrw.get et ex)
        have hxs := ho.row xs hm
        have hd := drop_get ex
        have lt := hlt xs (by rw [hd]; exact List.mem_cons_self)
        refine ⟨T', _, rfl, SqT.new, rfl, _, _, rfl, _, _, rfl, rfl, ?_⟩
        refine ⟨_, rfl, _, rfl, n, tt, xs, rfl, ht, hxs.1, _, rfl, ?_⟩
        refine iteF ⟨_, rfl, tt, _, rfl, .inr ht, _, _, rfl, rfl, _, rfl, ?_⟩
        rw [decide_eq_false (show ¬ ((xs.map V.int).length : Int) < 2 by rw [List.length_map]; have := hxs.2; omega)]
        refine iteF ⟨_, rfl, _, rfl, tt, ah, xs, av, rfl, rfl, ht, e2.tup hah, _, rfl, ?_⟩
        rw [le_false xs av lt]
        refine iteF ⟨_, rfl, e.trans e2, tt, xs, _, _, rfl, ht, fun ys hy => ?_⟩
        have hp' : (xss.drop i).Pairwise (· < ·) := ho.asc.sublist (List.drop_sublist _ _)
        rw [hd] at hp'
        exact (List.pairwise_cons.mp hp').1 ys hy
    · rintro σ H' ⟨e, _⟩
      exact q H' e
theorem sc15 : FnScope ["drawing", "count", "arrows", "causes"] ["drawing"] (defScope sNDr) := ⟨rfl, rfl, rfl, by decide +kernel, rfl, by decide +kernel, by decide +kernel⟩
theorem ok_ndr {f c fT fI fA fC : Addr} {fd fdT fdI fdA fdC : FuncData} (F : FunC K "need_drawing" "need_drawing" sNDr f fd c) (T : Blt mg) (N : Nums mg) (CT : CalG P w K mg base 1 "is_tuple_of" fT fdT ["value", "many"] (spTupOf K)) (CI : CalG P w K mg base 1 "is_integer" fI fdI ["value", "least", "most"] spInt)
    (CA : CalG P w K mg base 3 "_need_arrows" fA fdA ["count", "arrows"] (spNAr K)) (CC : CalG P w K mg base 3 "_need_causes" fC fdC ["count", "causes"] (spNCa K)) : FnG P w K mg base 4 f fd ["drawing"] (spNDr K) := by
  refine F.ok sc15 (fun vs H Q E h => ?_) (fun A outer s H vs Q hg hr h => ?_)
  · obtain ⟨_, _, _, _, rfl, _⟩ := h
    rfl
  · obtain ⟨t, m, ar, ca, rfl, hD, ho, q⟩ := h
    obtain ⟨tk, hN⟩ := N.th
    refine ⟨_, pss_cons (ps_if (pt_not (pt_val (pg_call CT.g (gu hg) (hr.mono (by decide)) (by rfl) CT.m CT.k CT.b (pa_cons (pv 0) (pa_cons pe_int pa_nil))))) (pss_one ps_never) pss_nil)
      (pss_cons (ps_asg (pv 0) (pg_tup rfl (pgs_cons (pg_name (i := 1) sc15.nd rfl (Or.inl rfl)) (pgs_cons (pg_name (i := 2) sc15.nd rfl (Or.inl rfl)) (pgs_cons (pg_name (i := 3) sc15.nd rfl (Or.inl rfl)) pgs_nil)))))
      (pss_cons (ps_if (pt_not (pt_val (pg_call CI.g (gu hg) (hr.mono (by decide)) (by rfl) CI.m CI.k CI.b (pa_cons (pv 1) (pa_cons pe_int (pa_cons (pe_glob (v := .int 10) (by rfl) hN ⟨_, rfl⟩) pa_nil)))))) (pss_one ps_never) pss_nil)
      (pss_cons (ps_expr (pg_call CA.g (gu hg) hr (by rfl) CA.m CA.k CA.b (pa_cons (pv 1) (pa_cons (pv 2) pa_nil))))
      (pss_cons (ps_expr (pg_call CC.g (gu hg) hr (by rfl) CC.m CC.k CC.b (pa_cons (pv 1) (pa_cons (pv 3) pa_nil))))
      (pss_one (ps_ret (pv 0))))))), ?_⟩
    obtain ⟨ta, tc, h1, h2, h3⟩ := id hD
    refine ⟨_, rfl, t, _, 3, rfl, h1, _, rfl, iteF ?_⟩
    refine ⟨_, rfl, t, _, rfl, h1, rfl, _, _, rfl, _, _, rfl, _, _, rfl, rfl, ?_⟩
    refine ⟨_, rfl, _, 1, 10, rfl, _, rfl, ?_⟩
    have m1 := ho.m1
    have m10 := ho.m10
    rw [decide_eq_true (show (1 : Int) ≤ (m : Int) ∧ (m : Int) ≤ 10 by omega)]
    refine iteF ⟨_, rfl, _, rfl, (m : Int), ta, ar, rfl, h2, ho.ra, ho.two, fun H1 e1 => ?_⟩
    refine ⟨_, rfl, _, rfl, (m : Int), tc, ca, rfl, h3.ext e1, ho.rc, ho.c20, fun H2 e2 => ⟨_, rfl, q H2 (e1.trans e2)⟩⟩
theorem sc18 : FnScope ["drawing", "value"] ["drawing", "value"] (defScope sNLo) := ⟨rfl, rfl, rfl, by decide +kernel, rfl, by decide +kernel, by decide +kernel⟩
theorem ok_nlo {f c fN fL : Addr} {fd fdN fdL : FuncData} (F : FunC K "need_lot" "need_lot" sNLo f fd c) (T : Blt mg) (CN : CalG P w K mg base 4 "need_drawing" fN fdN ["drawing"] (spNDr K)) (CL : CalG P w K mg base 2 "is_lot" fL fdL ["count", "value"] (spIsLot K)) : FnG P w K mg base 5 f fd ["drawing", "value"] (spNLo K) := by
  refine F.ok sc18 (fun vs H Q E h => ?_) (fun A outer s H vs Q hg hr h => ?_)
  · obtain ⟨_, _, _, _, _, _, rfl, _⟩ := h
    rfl
  · obtain ⟨t, b, m, ar, ca, lot, rfl, hD, ho, hb, hl, q⟩ := h
    refine ⟨_, pss_cons (ps_expr (pg_call CN.g (gu hg) hr (by rfl) CN.m CN.k CN.b (pa_cons (pv 0) pa_nil)))
      (pss_cons (ps_if (pt_not (pt_val (pg_call CL.g (gu hg) (hr.mono (by decide)) (by rfl) CL.m CL.k CL.b (pa_cons (pe_ix ix_tup (pv 0) pe_int (fun _ _ => rfl)) (pa_cons (pv 1) pa_nil))))) (pss_one ps_never) pss_nil)
      (pss_one (ps_ret (pv 1)))), ?_⟩
    refine ⟨_, rfl, t, m, ar, ca, rfl, hD, ho, fun H1 e1 => ?_⟩
    obtain ⟨ta, tc, h1, h2, h3⟩ := hD.ext e1
    refine ⟨_, rfl, t, _, _, _, rfl, rfl, h1, atI_nat (j := 0) rfl, _, rfl, _, b, lot, rfl, e1.tup hb, hl, _, rfl, ?_⟩
    exact iteF ⟨_, rfl, q H1 e1⟩
end

/-- a tuple of ints in a tuple of such -/
def rInTs (K : PySem.W.Frag) : R2 := fun x y H Q => ∃ (t a : Addr) (xs : List Int) (xss : List (List Int)), x = .ref t ∧ y = .ref a ∧ SqT K H t (xs.map V.int) ∧ TupsAt K H a xss ∧ Q (.bl (decide (xs ∈ xss))) H
theorem eqv_ints : ∀ ys xs : List Int, PyData.eqvAll (ys.map .int) (xs.map .int) = decide (ys = xs)
  | [], [] => rfl
  | [], _ :: _ => rfl
  | _ :: _, [] => rfl
  | y :: ys, x :: xs => by
    have ih := eqv_ints ys xs
    show ((y == x) && PyData.eqvAll (ys.map .int) (xs.map .int)) = _
    rw [ih]
    by_cases h : y = x <;> by_cases h2 : ys = xs <;> simp [h, h2]
theorem any_rows (xs : List Int) : ∀ xss : List (List Int), ((xss.map fun ys => PyData.tuple (ys.map .int)).any fun z => PyData.eqv z (.tuple (xs.map .int))) = decide (xs ∈ xss)
  | [] => by simp
  | ys :: xss => by
    have ih := any_rows xs xss
    rw [List.map_cons, List.any_cons, ih]
    show (PyData.eqvAll (ys.map .int) (xs.map .int) || _) = _
    rw [eqv_ints]
    by_cases h : ys = xs
    · subst h; simp
    · have h' : ¬ xs = ys := fun z => h z.symm
      simp [h, h']
theorem lay_ints : ∀ l : List Int, PyData.canLayAll0 (l.map .int) = true
  | [] => rfl
  | n :: l => by
    have := lay_ints l
    simp only [List.map_cons, PyData.canLayAll0, this, PyData.canLay0, Bool.and_self]
theorem lay_rows : ∀ l : List (List Int), PyData.canLayAll0 (l.map fun ys => .tuple (ys.map .int)) = true
  | [] => rfl
  | n :: l => by
    have := lay_rows l
    simp only [List.map_cons, PyData.canLayAll0, this, PyData.canLay0, lay_ints, Bool.and_self]
theorem op_inTs {X : Cx} {k : Nat} (hr : Room k X.A) : OpR X (compareOp .In) (rInTs X.K) := by
  intro pins s σ H x y v u Q I rx ry h
  obtain ⟨t, a, xs, xss, rfl, rfl, ht, ha, q⟩ := h
  obtain ⟨as, r1⟩ := Dp.reads I (.tuple (xs.map .int)) (.ref t) v (.tup ht (dp_ints _ _ xs)) rx
  obtain ⟨bs, r2⟩ := Dp.reads I _ (.ref a) u ha.dp ry
  refine SeqAt.in_tuple_reads r2 r1 (lay_rows xss) (lay_ints xs) ?_ ⟨.bl _, H, I, rfl, ?_⟩
  · have h1 : PyData.depth (.tuple (xs.map .int)) = 1 := by
      simp only [PyData.depth]
      rw [PySem.W.depth_ints]
    rw [h1]
    have := hr.un
    have := Nat.min_le_right (PyData.depthAll (xss.map fun ys => .tuple (ys.map .int))) 1
    omega
  · rw [any_rows]
    exact q
/-- ascending lists of the same things are one -/
theorem asc_eq : ∀ {a b : List Int}, a.Pairwise (· < ·) → b.Pairwise (· < ·) → (∀ x, x ∈ a ↔ x ∈ b) → a = b
  | [], [], _, _, _ => rfl
  | [], y :: ys, _, _, h => absurd ((h y).mpr List.mem_cons_self) (by simp)
  | x :: xs, [], _, _, h => absurd ((h x).mp List.mem_cons_self) (by simp)
  | x :: xs, y :: ys, ha, hb, h => by
    obtain ⟨a1, a2⟩ := List.pairwise_cons.mp ha
    obtain ⟨b1, b2⟩ := List.pairwise_cons.mp hb
    have e : x = y := by
      rcases List.mem_cons.mp ((h x).mp List.mem_cons_self) with z | z
      · exact z
      · have h1 := b1 x z
        rcases List.mem_cons.mp ((h y).mpr List.mem_cons_self) with w | w
        · omega
        · have h2 := a1 y w
          omega
    subst e
    rw [asc_eq a2 b2 fun z => ?_]
    constructor
    · intro hz
      rcases List.mem_cons.mp ((h z).mp (List.mem_cons_of_mem _ hz)) with e | w
      · have := a1 z hz; omega
      · exact w
    · intro hz
      rcases List.mem_cons.mp ((h z).mpr (List.mem_cons_of_mem _ hz)) with e | w
      · have := b1 z hz; omega
      · exact w
theorem pars_asc {m : Int} {ps : List (Int × Int)} (h : RowsOk m (prL ps)) (lot : List Int) (t : Int) : (parsOf ps lot t).Pairwise (· < ·) := by
  have hp := List.pairwise_map.mp h.asc
  unfold parsOf
  refine List.pairwise_map.mpr ((List.Pairwise.filter _ hp).imp_of_mem fun {a b} ha hb hlt => ?_)
  have ea := (List.mem_filter.mp ha).2
  have eb := (List.mem_filter.mp hb).2
  simp only [Bool.and_eq_true, decide_eq_true_eq] at ea eb
  rcases List.cons_lt_cons_iff.mp hlt with z | ⟨z, z2⟩
  · exact z
  · rcases List.cons_lt_cons_iff.mp z2 with w | ⟨w, w2⟩
    · omega
    · exact absurd w2 (by simp)
theorem chis_asc {m : Int} {ps : List (Int × Int)} (h : RowsOk m (prL ps)) (lot : List Int) (t : Int) : (chisOf ps lot t).Pairwise (· < ·) := by
  have hp := List.pairwise_map.mp h.asc
  unfold chisOf
  refine List.pairwise_map.mpr ((List.Pairwise.filter _ hp).imp_of_mem fun {a b} ha hb hlt => ?_)
  have ea := (List.mem_filter.mp ha).2
  have eb := (List.mem_filter.mp hb).2
  simp only [Bool.and_eq_true, decide_eq_true_eq] at ea eb
  rcases List.cons_lt_cons_iff.mp hlt with z | ⟨z, z2⟩
  · omega
  · rcases List.cons_lt_cons_iff.mp z2 with w | ⟨w, w2⟩
    · exact w
    · exact absurd w2 (by simp)
theorem mem_prL {ps : List (Int × Int)} {a b : Int} : [a, b] ∈ prL ps ↔ (a, b) ∈ ps := by
  unfold prL
  rw [List.mem_map]
  constructor
  · rintro ⟨⟨x, y⟩, h, e⟩
    simp at e
    rw [← e.1, ← e.2]
    exact h
  · intro h
    exact ⟨(a, b), h, rfl⟩
theorem pars_eq {m : Int} {ps : List (Int × Int)} (h : RowsOk m (prL ps)) {n : Int} {lot : List Int} (hl : LotOk n lot) (t : Int) : lot.filter (fun x => decide ([x, t] ∈ prL ps)) = parsOf ps lot t := by
  refine asc_eq (hl.asc.filter _) (pars_asc h lot t) fun x => ?_
  unfold parsOf
  simp only [List.mem_filter, List.mem_map, decide_eq_true_eq, Bool.and_eq_true]
  constructor
  · rintro ⟨h1, h2⟩
    exact ⟨(x, t), ⟨mem_prL.mp h2, rfl, h1⟩, rfl⟩
  · rintro ⟨⟨a, b⟩, ⟨h1, rfl, h3⟩, rfl⟩
    exact ⟨h3, mem_prL.mpr h1⟩
theorem chis_eq {m : Int} {ps : List (Int × Int)} (h : RowsOk m (prL ps)) {n : Int} {lot : List Int} (hl : LotOk n lot) (t : Int) : lot.filter (fun x => decide ([t, x] ∈ prL ps)) = chisOf ps lot t := by
  refine asc_eq (hl.asc.filter _) (chis_asc h lot t) fun x => ?_
  unfold chisOf
  simp only [List.mem_filter, List.mem_map, decide_eq_true_eq, Bool.and_eq_true]
  constructor
  · rintro ⟨h1, h2⟩
    exact ⟨(t, x), ⟨mem_prL.mp h2, rfl, h1⟩, rfl⟩
  · rintro ⟨⟨a, b⟩, ⟨h1, rfl, h3⟩, rfl⟩
    exact ⟨h3, mem_prL.mpr h1⟩
theorem causOf_snoc (ca : List (List Int)) (xs : List Int) (t : Int) : causOf (ca ++ [xs]) t = causOf ca t ++ (if t ∈ xs then [(ca.length : Int)] else []) := by
  unfold causOf
  rw [List.zipIdx_append, List.filter_append, List.map_append]
  congr 1
  simp only [List.zipIdx_cons, List.zipIdx_nil, Nat.zero_add, List.filter_cons, List.filter_nil]
  by_cases h : t ∈ xs <;> simp [h]
/-- a comprehension over enumerate(a tuple) -/
theorem lc_enumT {K : PySem.W.Frag} {a : Addr} {xs : List V} {g : TG} {tt : TT} {te : TE} {vs : List Nat} {σ : L2.St} {H1 : Hp} {D : Addr} {Qd : Hp → Prop} (Pv : Nat → Hp → Prop) (h0 : Pv 0 (upd H1 D (.lst []))) (hl : ∀ i H, i ≤ xs.length → Pv i H → SqT K H a xs)
    (hs : ∀ i x T H, xs[i]? = some x → Pv i H → H T = none → g (.ref T) (wipe σ vs) (upd H T (.tup [.int (i : Nat), x])) fun σ2 H2 => wipe σ2 vs = wipe σ vs ∧ tt σ2 H2 fun b H3 =>
      if b = true then te σ2 H3 fun y H4 => ∃ acc, H4 D = some (.lst acc) ∧ acc.length < sizeLine ∧ Pv (i + 1) (upd H4 D (.lst (acc ++ [y]))) else Pv (i + 1) H3) (hd : ∀ H, Pv xs.length H → Qd H) :
    ∃ W : Nat → Nat → Hp → Prop, (∃ m, W 0 m (upd H1 D (.lst []))) ∧ ∀ i m H, W i m H →
      ((IteT K a).stop i H ∧ Qd H) ∨ ((IteT K a).go i H ∧ ∃ Nx : Hp → Prop, (∀ H', Nx H' → ∃ m', m' < m ∧ W (i + 1) m' H') ∧ ∀ x H', (IteT K a).yld i H x H' → g x (wipe σ vs) H' fun σ2 H2 => wipe σ2 vs = wipe σ vs ∧ tt σ2 H2 fun b H3 =>
        if b = true then te σ2 H3 fun y H4 => ∃ acc, H4 D = some (.lst acc) ∧ acc.length < sizeLine ∧ Nx (upd H4 D (.lst (acc ++ [y]))) else Nx H3) := by
  refine ⟨fun i m H => m = xs.length - i ∧ i ≤ xs.length ∧ Pv i H, ⟨_, rfl, Nat.zero_le _, h0⟩, ?_⟩
  rintro i m H ⟨rfl, hi, p⟩
  have sq := hl i H hi p
  rcases Nat.lt_or_ge i xs.length with hlt | hge
  · refine .inr ⟨⟨xs, xs[i], sq, List.getElem?_eq_getElem hlt⟩, Pv (i + 1), fun H' p' => ⟨_, by omega, rfl, hlt, p'⟩, fun x H' hy => ?_⟩
    obtain ⟨T, x', rfl, hT, rfl, hx⟩ := hy
    exact hs i x' T H (hx xs sq) p hT
  · have e : i = xs.length := by omega
    subst e
    exact .inl ⟨⟨xs, sq, rfl⟩, hd H p⟩
theorem take_snoc {α : Type} {xs : List α} {i : Nat} {x : α} (h : xs[i]? = some x) : xs.take (i + 1) = xs.take i ++ [x] := by rw [List.take_add_one, h]; rfl
theorem filter_snoc {α : Type} {xs : List α} {x : α} {q : α → Bool} : (xs ++ [x]).filter q = xs.filter q ++ (if q x = true then [x] else []) := by
  rw [List.filter_append]
  congr 1
  cases h : q x with
  | true => simp [h]
  | false => simp [h]
theorem len_filter_take {xs : List Int} {q : Int → Bool} {i n : Nat} (h : xs.length ≤ n) : ((xs.take i).filter q).length ≤ n := by
  refine Nat.le_trans (List.length_filter_le _ _) ?_
  rw [List.length_take]
  omega
theorem caus_len {ca : List (List Int)} {t : Int} : (causOf ca t).length ≤ ca.length := by
  unfold causOf
  rw [List.length_map]
  refine Nat.le_trans (List.length_filter_le _ _) ?_
  rw [List.length_zipIdx]
  exact Nat.le_refl _
theorem caus_lot {ca : List (List Int)} {t : Int} {n : Nat} (h : ca.length ≤ n) : LotOk n (causOf ca t) := by
  have key : ∀ (l : List (List Int)) (k : Nat), ((l.zipIdx k).filter fun p => decide (t ∈ p.1)).map (fun p => (p.2 : Int)) |>.Pairwise (· < ·) := by
    intro l
    induction l with
    | nil => intro k; exact .nil
    | cons x l ih =>
      intro k
      rw [List.zipIdx_cons, List.filter_cons]
      split
      · rw [List.map_cons]
        refine List.pairwise_cons.mpr ⟨fun y hy => ?_, ih (k + 1)⟩
        obtain ⟨p, hp, rfl⟩ := List.mem_map.mp hy
        have := (List.mem_zipIdx (List.mem_filter.mp hp).1).1
        show (k : Int) < (p.2 : Int)
        omega
      · exact ih (k + 1)
  refine ⟨key ca 0, fun x hx => ?_⟩
  unfold causOf at hx
  obtain ⟨p, hp, rfl⟩ := List.mem_map.mp hx
  have h2 := List.mem_zipIdx (List.mem_filter.mp hp).1
  have := h2.2.1
  omega
/-- keywords in the very order turned about, nothing by position -/
def rv1 {α : Type} : List α → List α → List α
  | [], [a] => [a]
  | _, _ => []
def rv2 {α : Type} : List α → List α → List α
  | [], [a, b] => [b, a]
  | _, _ => []
def rv3 {α : Type} : List α → List α → List α
  | [], [a, b, c] => [c, b, a]
  | _, _ => []
theorem rel1 {vs : List V} {us : List Value} {zs : List V} {ws : List Value} (h1 : Vals vs us) (h2 : Vals zs ws) : Vals (rv1 vs zs) (rv1 us ws) := by
  cases h1 with
  | cons a b => exact .nil
  | nil =>
    cases h2 with
    | nil => exact .nil
    | cons a b =>
      cases b with
      | nil => exact .cons a .nil
      | cons c d => exact .nil
theorem rel2 {vs : List V} {us : List Value} {zs : List V} {ws : List Value} (h1 : Vals vs us) (h2 : Vals zs ws) : Vals (rv2 vs zs) (rv2 us ws) := by
  cases h1 with
  | cons a b => exact .nil
  | nil =>
    cases h2 with
    | nil => exact .nil
    | cons a b =>
      cases b with
      | nil => exact .nil
      | cons c d =>
        cases d with
        | nil => exact .cons c (.cons a .nil)
        | cons e f => exact .nil
theorem rel3 {vs : List V} {us : List Value} {zs : List V} {ws : List Value} (h1 : Vals vs us) (h2 : Vals zs ws) : Vals (rv3 vs zs) (rv3 us ws) := by
  cases h1 with
  | cons a b => exact .nil
  | nil =>
    cases h2 with
    | nil => exact .nil
    | cons a b =>
      cases b with
      | nil => exact .nil
      | cons c d =>
        cases d with
        | nil => exact .nil
        | cons e f =>
          cases f with
          | nil => exact .cons e (.cons c (.cons a .nil))
          | cons g h => exact .nil
section
variable {K : PySem.W.Frag} {x qual : Str} {st : Stmt} {f c : Addr} {fd : FuncData}
theorem kb1 (F : FunC K x qual st f fd c) {p1 k1 : Str}
    (h : ∀ (kV doc pm : Value) (an : Option Addr) (cdv ct : Value) (a : Value), bindArgs (PySem.W.fnOf x qual (defArgs st) (defBody st) (defScope st) .none kV doc pm an cdv ct) ⟨[], [(k1, a)]⟩ = pure [(p1, a)]) : KBinds K fd [p1] [k1] rv1 rv1 := by
  obtain ⟨oc, od, kV, doc, pm, an, ct, osl, rfl, lk, hcd⟩ := F.ex
  refine ⟨fun s us ws X l => ?_, rel1⟩
  match us, ws, l with
  | [], [a], _ => exact BindsTo.of_eq (h kV doc pm an (.ref c) ct a)
  | [], [], l => exact absurd l (by simp [rv1])
  | [], _ :: _ :: _, l => exact absurd l (by simp [rv1])
  | _ :: _, _, l => exact absurd l (by simp [rv1])
theorem kb2 (F : FunC K x qual st f fd c) {p1 p2 k1 k2 : Str}
    (h : ∀ (kV doc pm : Value) (an : Option Addr) (cdv ct : Value) (a b : Value), bindArgs (PySem.W.fnOf x qual (defArgs st) (defBody st) (defScope st) .none kV doc pm an cdv ct) ⟨[], [(k1, a), (k2, b)]⟩ = pure [(p1, b), (p2, a)]) : KBinds K fd [p1, p2] [k1, k2] rv2 rv2 := by
  obtain ⟨oc, od, kV, doc, pm, an, ct, osl, rfl, lk, hcd⟩ := F.ex
  refine ⟨fun s us ws X l => ?_, rel2⟩
  match us, ws, l with
  | [], [a, b], _ => exact BindsTo.of_eq (h kV doc pm an (.ref c) ct a b)
  | [], [], l => exact absurd l (by simp [rv2])
  | [], [_], l => exact absurd l (by simp [rv2])
  | [], _ :: _ :: _ :: _, l => exact absurd l (by simp [rv2])
  | _ :: _, _, l => exact absurd l (by simp [rv2])
theorem kb3 (F : FunC K x qual st f fd c) {p1 p2 p3 k1 k2 k3 : Str}
    (h : ∀ (kV doc pm : Value) (an : Option Addr) (cdv ct : Value) (a b d : Value), bindArgs (PySem.W.fnOf x qual (defArgs st) (defBody st) (defScope st) .none kV doc pm an cdv ct) ⟨[], [(k1, a), (k2, b), (k3, d)]⟩ = pure [(p1, d), (p2, b), (p3, a)]) : KBinds K fd [p1, p2, p3] [k1, k2, k3] rv3 rv3 := by
  obtain ⟨oc, od, kV, doc, pm, an, ct, osl, rfl, lk, hcd⟩ := F.ex
  refine ⟨fun s us ws X l => ?_, rel3⟩
  match us, ws, l with
  | [], [a, b, d], _ => exact BindsTo.of_eq (h kV doc pm an (.ref c) ct a b d)
  | [], [], l => exact absurd l (by simp [rv3])
  | [], [_], l => exact absurd l (by simp [rv3])
  | [], [_, _], l => exact absurd l (by simp [rv3])
  | [], _ :: _ :: _ :: _ :: _, l => exact absurd l (by simp [rv3])
  | _ :: _, _, l => exact absurd l (by simp [rv3])
end
theorem two_pr : ∀ {ar : List (List Int)}, (∀ xs ∈ ar, xs.length = 2) → ∃ ps, ar = prL ps
  | [], _ => ⟨[], rfl⟩
  | xs :: ar, h => by
    obtain ⟨ps, rfl⟩ := two_pr (ar := ar) fun y hy => h y (List.mem_cons_of_mem _ hy)
    match xs, h xs List.mem_cons_self with
    | [a, b], _ => exact ⟨(a, b) :: ps, rfl⟩
theorem dr_shw2 {m : Nat} {ar ca : List (List Int)} (h : DrOk m ar ca) : Shw (drD m ar ca) 2000000 3 := by
  have ha : Shw (.tuple (ar.map fun xs => .tuple (xs.map .int))) 500000 2 := (Shw.tuple (m := 100) (n := 4100) (k := 1) (fun d hd => by
    obtain ⟨x, hx, rfl⟩ := List.mem_map.mp hd
    exact (Shw.tuple (m := 2) (lot_shw (h.ra.row x hx).1 (by have := h.m10; omega)) (by rw [List.length_map, h.two x hx]; exact Nat.le_refl _)).mono (by decide) (by decide)) (by rw [List.length_map]; exact h.few)).mono (by decide) (by decide)
  have hc : Shw (.tuple (ca.map fun xs => .tuple (xs.map .int))) 650000 2 := (Shw.tuple (m := 20) (n := 30000) (k := 1) (fun d hd => by
    obtain ⟨x, hx, rfl⟩ := List.mem_map.mp hd
    exact lotD_shw (h.rc.row x hx).1 h.m10) (by rw [List.length_map]; exact h.c20)).mono (by decide) (by decide)
  unfold drD
  refine Shw.mono (n' := 2000000) (k' := 3) (Shw.tuple (xs := [.int m, .tuple (ar.map fun xs => .tuple (xs.map .int)), .tuple (ca.map fun xs => .tuple (xs.map .int))]) (m := 3) (n := 650000) (k := 2) (fun d hd => by
    rcases List.mem_cons.mp hd with z | hd
    · rw [z]; exact (Shw.int (by have := h.m10; omega)).mono (by decide) (by decide)
    · rcases List.mem_cons.mp hd with z | hd
      · rw [z]; exact ha.mono (by decide) (by decide)
      · rw [List.mem_singleton.mp hd]
        exact hc) (by simp)) (by decide) (by decide)

end K3
set_option Elab.async false
set_option linter.all false
set_option maxRecDepth 100000
set_option maxHeartbeats 4000000
namespace K3
open PySem L2 G9 GxR RT
structure Blt2 (mg : Str → Option Value) : Prop where
  all : mg "all" = none
  reversed : mg "reversed" = none
abbrev sLies : Stmt := top 8
abbrev sMeets : Stmt := top 9
abbrev sAllW : Stmt := top 10
abbrev sLead : Stmt := top 11
abbrev sGoalIn : Stmt := top 12
abbrev gLies : Scope := gSc (arg0 (retE (stm sLies 0)))
abbrev gMeets : Scope := gSc (arg0 (retE (stm sMeets 0)))
abbrev gAllW : Scope := gSc (arg0 (retE (stm sAllW 0)))
theorem gnLies : GenN (defScope sLies) gLies ["thing"] := ⟨by decide +kernel, by decide +kernel, by decide +kernel, by decide +kernel, by decide +kernel, by decide +kernel⟩
theorem gnMeets : GenN (defScope sMeets) gMeets ["thing"] := ⟨by decide +kernel, by decide +kernel, by decide +kernel, by decide +kernel, by decide +kernel, by decide +kernel⟩
theorem gnAllW : GenN (defScope sAllW) gAllW ["thing"] := ⟨by decide +kernel, by decide +kernel, by decide +kernel, by decide +kernel, by decide +kernel, by decide +kernel⟩
def spIn (K : PySem.W.Frag) (P' : Addr) (f : List Int → List Int → Bool) : Sp := fun vs H Q _ => ∃ (a b : Addr) (xs ys : List Int), vs = [.ref a, .ref b] ∧ SqT K H a (xs.map V.int) ∧ SqT K H b (ys.map V.int) ∧ TabG H P' ∧
  ∀ (H' : Hp), Ext [] H H' → Q (.bl (f xs ys)) H'
def liesF (xs ys : List Int) : Bool := (xs.map fun x => decide (x ∈ ys)).all id
def meetsF (xs ys : List Int) : Bool := (xs.map fun x => decide (x ∈ ys)).any id
/-- the things below a count that are not in a lot -/
def outL (m : Nat) (lot : List Int) : List Int := ((List.range m).map fun j : Nat => (j : Int)).filter fun x => !decide (x ∈ lot)
def spAllW (K : PySem.W.Frag) (P' : Addr) : Sp := fun vs H Q _ => ∃ (m : Nat) (b : Addr) (ys : List Int), vs = [.int m, .ref b] ∧ m ≤ 1000 ∧ SqT K H b (ys.map V.int) ∧ TabG H P' ∧
  ∀ (r : Addr) (H' : Hp), Ext [] H H' → SqT K H' r ((outL m ys).map V.int) → Q (.ref r) H'
section
variable {P : Program} {w : World} {K : PySem.W.Frag} {mg : Str → Option Value} {base : Heap}
theorem scLies : FnScope ["lot", "other"] ["lot", "other"] (defScope sLies) := ⟨rfl, rfl, rfl, by decide +kernel, rfl, by decide +kernel, by decide +kernel⟩
theorem ok_lies {f c P' : Addr} {fd : FuncData} (F : FunC K "lies_in" "lies_in" sLies f fd c) (T : Blt2 mg) (TB : TabB base mg c P') : FnG P w K mg base 1 f fd ["lot", "other"] (spIn K P' liesF) := by
  refine F.ok scLies (fun vs H Q E h => ?_) (fun A outer s H vs Q hg hr h => ?_)
  · obtain ⟨_, _, _, _, rfl, _⟩ := h
    rfl
  · obtain ⟨a, b, xs, ys, rfl, ha, hb, hT, q⟩ := h
    refine ⟨_, pss_one (ps_ret (pe_g1B eat_all hr (by rfl) T.all (by decide +kernel) TB rfl gnLies (gs_seq (pv 0) hr.hd) gts_nil (ge_in (ge_loc 0 rfl (by decide +kernel)) (ge_free 1 rfl (by decide +kernel) rfl)))), ?_⟩
    refine ⟨_, rfl, a, _, rfl, .inr ha, hT, fun _ => true, fun v => .bl (inV v (ys.map V.int)), fun x _ => rfl, fun x hx _ => ?_, ?_⟩
    · obtain ⟨z, _, rfl⟩ := List.mem_map.mp hx
      exact ⟨_, ⟨.int z, b, _, rfl, rfl, .inr hb, rfl, flat_ints ys, rfl⟩, rfl⟩
    · refine ⟨xs.map fun x => decide (x ∈ ys), ?_, fun H2 hTb => q H2 (.tabbed hT hTb)⟩
      rw [List.filter_eq_self.mpr fun _ _ => rfl, List.map_map, List.map_map]
      refine List.map_congr_left fun x _ => ?_
      show V.bl (inV (.int x) _) = _
      rw [inV_int]
      rfl
theorem scMeets : FnScope ["lot", "other"] ["lot", "other"] (defScope sMeets) := ⟨rfl, rfl, rfl, by decide +kernel, rfl, by decide +kernel, by decide +kernel⟩
theorem ok_meets {f c P' : Addr} {fd : FuncData} (F : FunC K "meets" "meets" sMeets f fd c) (T : Blt mg) (TB : TabB base mg c P') : FnG P w K mg base 1 f fd ["lot", "other"] (spIn K P' meetsF) := by
  refine F.ok scMeets (fun vs H Q E h => ?_) (fun A outer s H vs Q hg hr h => ?_)
  · obtain ⟨_, _, _, _, rfl, _⟩ := h
    rfl
  · obtain ⟨a, b, xs, ys, rfl, ha, hb, hT, q⟩ := h
    refine ⟨_, pss_one (ps_ret (pe_g1B eat_any hr (by rfl) T.any (by decide +kernel) TB rfl gnMeets (gs_seq (pv 0) hr.hd) gts_nil (ge_in (ge_loc 0 rfl (by decide +kernel)) (ge_free 1 rfl (by decide +kernel) rfl)))), ?_⟩
    refine ⟨_, rfl, a, _, rfl, .inr ha, hT, fun _ => true, fun v => .bl (inV v (ys.map V.int)), fun x _ => rfl, fun x hx _ => ?_, ?_⟩
    · obtain ⟨z, _, rfl⟩ := List.mem_map.mp hx
      exact ⟨_, ⟨.int z, b, _, rfl, rfl, .inr hb, rfl, flat_ints ys, rfl⟩, rfl⟩
    · refine ⟨xs.map fun x => decide (x ∈ ys), ?_, fun H2 hTb => q H2 (.tabbed hT hTb)⟩
      rw [List.filter_eq_self.mpr fun _ _ => rfl, List.map_map, List.map_map]
      refine List.map_congr_left fun x _ => ?_
      show V.bl (inV (.int x) _) = _
      rw [inV_int]
      rfl
theorem scAllW : FnScope ["count", "lot"] ["count", "lot"] (defScope sAllW) := ⟨rfl, rfl, rfl, by decide +kernel, rfl, by decide +kernel, by decide +kernel⟩
theorem ok_allw {f c P' : Addr} {fd : FuncData} (F : FunC K "all_without" "all_without" sAllW f fd c) (T : Blt mg) (TB : TabB base mg c P') : FnG P w K mg base 1 f fd ["count", "lot"] (spAllW K P') := by
  refine F.ok scAllW (fun vs H Q E h => ?_) (fun A outer s H vs Q hg hr h => ?_)
  · obtain ⟨_, _, _, rfl, _⟩ := h
    rfl
  · obtain ⟨m, b, ys, rfl, hm, hb, hT, q⟩ := h
    refine ⟨_, pss_one (ps_ret (pe_g1T eat_tuple hr (by rfl) T.tuple (by decide +kernel) TB rfl gnAllW (gs_range1 (by rfl) T.range (pa_cons (pv 0) pa_nil))
      (gts_one (gt_notIn (ge_loc 0 rfl (by decide +kernel)) (ge_free 1 rfl (by decide +kernel) rfl))) (ge_loc 0 rfl (by decide +kernel)))), ?_⟩
    refine ⟨_, rfl, m, rfl, by omega, hT, fun v => !inV v (ys.map V.int), fun v => v, fun x hx => ?_, fun x _ _ => rfl, ?_⟩
    · obtain ⟨z, _, rfl⟩ := List.mem_map.mp hx
      exact ⟨.int z, b, _, rfl, rfl, .inr hb, rfl, flat_ints ys, rfl⟩
    · have e : (((List.range m).map fun j : Nat => V.int (j : Int)).filter fun v => !inV v (ys.map V.int)).map (fun v => v) = (outL m ys).map V.int := by
        unfold outL
        rw [List.map_id', show (List.range m).map (fun j : Nat => V.int (j : Int)) = ((List.range m).map fun j : Nat => (j : Int)).map V.int by rw [List.map_map]; rfl, List.filter_map]
        congr 1
        refine List.filter_congr fun x _ => ?_
        show (!inV (.int x) _) = _
        rw [inV_int]
      rw [e]
      refine ⟨?_, fun H2 l hTb hl => q l _ ((Ext.tabbed hT hTb).trans (.new hl)) SqT.new⟩
      rw [List.length_map]
      refine sizeL (Nat.le_trans (List.length_filter_le _ _) ?_)
      rw [List.length_map, List.length_range]
      exact hm
end
end K3
set_option Elab.async false
set_option linter.all false
set_option maxRecDepth 100000
set_option maxHeartbeats 4000000
namespace K3
open PySem L2 G9 GxR RT
/-! ### what leads, by one pass backward -/
def leadL (lot goal : List Int) : List (Int × Int) → List Int
  | [] => goal
  | p :: ps => if p.1 ∈ lot ∧ p.2 ∈ leadL lot goal ps then (if p.1 ∈ leadL lot goal ps then leadL lot goal ps else p.1 :: leadL lot goal ps) else leadL lot goal ps
theorem leadL_cons (lot goal : List Int) (p : Int × Int) (ps : List (Int × Int)) : leadL lot goal (p :: ps) = if p.1 ∈ lot ∧ p.2 ∈ leadL lot goal ps then (if p.1 ∈ leadL lot goal ps then leadL lot goal ps else p.1 :: leadL lot goal ps) else leadL lot goal ps := rfl
theorem leadL_nodup {lot goal : List Int} (hg : goal.Nodup) : ∀ ps, (leadL lot goal ps).Nodup
  | [] => hg
  | p :: ps => by
    have ih := leadL_nodup (lot := lot) hg ps
    unfold leadL
    split
    · split
      · exact ih
      · rename_i h
        exact List.nodup_cons.mpr ⟨h, ih⟩
    · exact ih
theorem leadL_bd {n : Int} {lot goal : List Int} (hl : LotOk n lot) (hg : LotOk n goal) : ∀ ps, ∀ x ∈ leadL lot goal ps, 0 ≤ x ∧ x < n
  | [], x, hx => hg.bd x hx
  | p :: ps, x, hx => by
    have ih := leadL_bd hl hg ps
    unfold leadL at hx
    split at hx
    · rename_i h
      split at hx
      · exact ih x hx
      · rcases List.mem_cons.mp hx with z | z
        · rw [z]; exact hl.bd _ h.1
        · exact ih x z
    · exact ih x hx
theorem LotOk.nodup {n : Int} {xs : List Int} (h : LotOk n xs) : xs.Nodup := h.asc.imp fun {a b} z e => by omega
theorem bd_len {m : Nat} {xs : List Int} (hn : xs.Nodup) (hb : ∀ x ∈ xs, 0 ≤ x ∧ x < m) : xs.length ≤ m := by
  have h := nodup_len (m := (List.range m).map fun j : Nat => (j : Int)) hn fun x hx => by
    have := hb x hx
    exact List.mem_map.mpr ⟨x.toNat, List.mem_range.mpr (by omega), by omega⟩
  rwa [List.length_map, List.length_range] at h
theorem leadL_len {m : Nat} {lot goal : List Int} (hl : LotOk m lot) (hg : LotOk m goal) (ps : List (Int × Int)) : (leadL lot goal ps).length ≤ m := bd_len (leadL_nodup hg.nodup ps) (leadL_bd hl hg ps)
def spLeadIn (K : PySem.W.Frag) : Sp := fun vs H Q _ => ∃ (a b g : Addr) (m : Nat) (ps : List (Int × Int)) (lot goal : List Int), vs = [.ref a, .ref b, .ref g] ∧ TupsAt K H a (prL ps) ∧ SqT K H b (lot.map V.int) ∧ SqT K H g (goal.map V.int) ∧ LotOk m lot ∧ LotOk m goal ∧ m ≤ 10 ∧
  ∀ (r : Addr) (out : List Int) (H' : Hp), Ext [] H H' → SqT K H' r (out.map V.int) → LotOk m out → (∀ x, x ∈ out ↔ x ∈ leadL lot goal ps) → Q (.ref r) H'
section
variable {P : Program} {w : World} {K : PySem.W.Frag} {mg : Str → Option Value} {base : Heap}
abbrev nmLead : List Str := ["arrows", "lot", "goal", "leads", "start", "end"]
theorem scLead : FnScope nmLead ["arrows", "lot", "goal"] (defScope sLead) := ⟨rfl, rfl, rfl, by decide +kernel, rfl, by decide +kernel, by decide +kernel⟩
theorem ok_leadIn {f c : Addr} {fd : FuncData} (F : FunC K "leading_in" "leading_in" sLead f fd c) (T : Blt mg) (T2 : Blt2 mg) : FnG P w K mg base 1 f fd ["arrows", "lot", "goal"] (spLeadIn K) := by
  refine F.ok scLead (fun vs H Q E h => ?_) (fun A outer s H vs Q hg hr h => ?_)
  · obtain ⟨_, _, _, _, _, _, _, rfl, _⟩ := h
    rfl
  · obtain ⟨a, b, g, m, ps, lot, goal, rfl, ha, hb, hgo, hl, hgl, m10, q⟩ := h
    refine ⟨_, pss_cons (ps_set (i := 3) scLead.nd rfl (Or.inl rfl) (pe_callTy (cr_setOfI rfl) (by rfl) T.set (by decide +kernel) (pa_cons (pv 2) pa_nil)))
      (pss_cons (ps_for PassesOwn.never rfl (pi_revA (by rfl) T2.reversed (pv 0)) (pg_tup rfl (pgs_cons (pg_name (i := 4) scLead.nd rfl (Or.inl rfl)) (pgs_cons (pg_name (i := 5) scLead.nd rfl (Or.inl rfl)) pgs_nil)))
        (pss_one (ps_if (PW.pt (pw_and (pt_cmpR (r := rIn K false) op_in_seq (pv 4) (pv 1) (by with_unfolding_all rfl)) (pw_and1 (pt_cmpR (r := rSIn w) or_sin (pv 5) (pv 3) (by with_unfolding_all rfl)))))
          (pss_one (ps_expr (pe_sadd (pv 3) (pa_cons (pv 4) pa_nil)))) pss_nil)))
      (pss_one (ps_ret (pe_callTy call_tuple_of (by rfl) T.tuple (by decide +kernel) (pa_cons (pe_callB (cr_sortedSet rfl) (by rfl) T.sorted (by decide +kernel) (pa_cons (pv 3) pa_nil)) pa_nil))))), ?_⟩
    obtain ⟨ts, h1, h2⟩ := id ha
    refine ⟨_, rfl, g, goal, rfl, hgo, by have := hgl.len; omega, fun D c hD hc => ?_⟩
    have e1 : Ext [] H (upd H D (SetO w D (fun j => decide (j ∈ goal)) c)) := .new hD
    have hlen : (ts.map V.ref).length = ps.length := by rw [List.length_map, h2.len]; unfold prL; rw [List.length_map]
    refine ⟨_, rfl, a, ts.map V.ref, rfl, .inr ⟨e1.tup h1, ?_⟩⟩
    rw [hlen]
    refine for_revT hlen (fun i σ H' => ∃ (S : Int → Bool) (c : Nat) (v4 v5 : Option V), σ = [some (.ref a), some (.ref b), some (.ref g), some (.ref D), v4, v5] ∧ H' D = some (SetO w D S c) ∧ c ≤ (leadL lot goal (ps.drop (ps.length - i))).length ∧
      (∀ k, S k = true ↔ k ∈ leadL lot goal (ps.drop (ps.length - i))) ∧ Ext [] H H')
      ⟨_, c, none, none, rfl, upd_same, by simpa [leadL] using hc, fun k => by simp [leadL], e1⟩ (fun i σ H' _ ⟨_, _, _, _, _, _, _, _, e⟩ => e.tup h1) ?_ ?_
    · rintro i x σ H' hi hx ⟨S, c, v4, v5, rfl, hS, hc, hk, e⟩
      rw [List.getElem?_map] at hx
      cases et : ts[ps.length - 1 - i]? with
      | none => rw [et] at hx; cases hx
      | some tt =>
        rw [et] at hx
        cases hx
        have hlt : ps.length - 1 - i < ps.length := by omega
        have ex := List.getElem?_eq_getElem hlt
        generalize hp : ps[ps.length - 1 - i] = p at ex
        have er : (prL ps)[ps.length - 1 - i]? = some [p.1, p.2] := by
          unfold prL
          rw [List.getElem?_map, ex]
          rfl
        have ht := e.tup (h2.get et er)
        have hdrop : ps.drop (ps.length - (i + 1)) = p :: ps.drop (ps.length - i) := by
          have h0 : ps.length - (i + 1) = ps.length - 1 - i := by omega
          rw [h0, List.drop_eq_getElem_cons hlt, hp]
          congr 2
          omega
        rw [hdrop]
        generalize ps.drop (ps.length - i) = rest at hc hk
        refine ⟨tt, _, rfl, ht, rfl, _, _, rfl, _, _, rfl, rfl, _, rfl, _, rfl, b, _, rfl, .inr (e.tup hb), rfl, flat_ints _, _, rfl, ?_⟩
        rw [inV_int]
        refine ite2 (fun hz => ?_) (fun hz => ?_)
        · have hz' : p.1 ∈ lot := of_decide_eq_true hz
          refine ⟨_, rfl, _, rfl, p.2, D, S, c, rfl, rfl, hS, _, rfl, ?_⟩
          refine ite2 (fun hy => ?_) (fun hy => ?_)
          · have hy' := (hk _).mp hy
            have hlen10 := leadL_len hl hgl rest
            refine ⟨_, rfl, ⟨D, S, c, rfl, hS⟩, _, rfl, D, p.1, S, c, rfl, rfl, hS, by unfold scanBound; omega, ?_⟩
            refine ⟨_, (if S p.1 = true then c else c + 1), _, _, rfl, upd_same, ?_, fun k => ?_, e.at (.of hD)⟩
            · rw [leadL_cons]
              rw [if_pos (show p.1 ∈ lot ∧ p.2 ∈ leadL lot goal rest from ⟨hz', hy'⟩)]
              by_cases hs : S p.1 = true
              · rw [if_pos hs, if_pos ((hk _).mp hs)]
                exact hc
              · rw [if_neg hs, if_neg (fun z => hs ((hk _).mpr z))]
                simp
                omega
            · rw [leadL_cons]
              rw [if_pos (show p.1 ∈ lot ∧ p.2 ∈ leadL lot goal rest from ⟨hz', hy'⟩), Bool.or_eq_true, hk, decide_eq_true_eq]
              by_cases hs : p.1 ∈ leadL lot goal rest
              · rw [if_pos hs]
                exact ⟨fun z => z.elim id fun z => z ▸ hs, .inl⟩
              · rw [if_neg hs, List.mem_cons]
                exact Or.comm
          · have hy' : ¬ p.2 ∈ leadL lot goal rest := fun z => hy ((hk _).mpr z)
            refine ⟨S, c, _, _, rfl, hS, ?_, ?_, e⟩
            · rw [leadL_cons]
              rw [if_neg fun z => hy' z.2]
              exact hc
            · rw [leadL_cons]
              rw [if_neg fun z => hy' z.2]
              exact hk
        · have hz' : ¬ p.1 ∈ lot := fun z => hz (decide_eq_true z)
          refine iteF ?_
          refine ⟨S, c, _, _, rfl, hS, ?_, ?_, e⟩
          · rw [leadL_cons]
            rw [if_neg fun z => hz' z.1]
            exact hc
          · rw [leadL_cons]
            rw [if_neg fun z => hz' z.1]
            exact hk
    · rintro σ H' ⟨S, c, v4, v5, rfl, hS, hc, hk, e⟩
      rw [Nat.sub_self, List.drop_zero] at hc hk
      have hlen10 := leadL_len hl hgl ps
      refine ⟨_, rfl, D, S, c, rfl, hS, by omega, fun ns p pw hm hln hp => ?_⟩
      refine ⟨p, _, rfl, .inl ⟨.inl (.inl upd_same), fun r hr2 => ?_⟩⟩
      refine q r ns _ ((e.trans (.new hp)).trans (.new hr2)) SqT.new ⟨pw, fun x hx => ?_⟩ fun x => (hm x).trans (hk x)
      exact leadL_bd hl hgl ps x ((hk x).mp ((hm x).mp hx))
end
end K3
set_option Elab.async false
set_option linter.all false
set_option maxRecDepth 100000
set_option maxHeartbeats 4000000
namespace K3
open PySem L2 G9 GxR RT
theorem outL_lot (m : Nat) (lot : List Int) : LotOk m (outL m lot) := by
  have key : ∀ m : Nat, ((List.range m).map fun j : Nat => (j : Int)).Pairwise (· < ·) := fun m => by
    refine List.pairwise_map.mpr ((List.pairwise_lt_range (n := m)).imp fun {a b} h => ?_)
    omega
  refine ⟨(key m).filter _, fun x hx => ?_⟩
  obtain ⟨j, hj, rfl⟩ := List.mem_map.mp (List.mem_filter.mp hx).1
  have := List.mem_range.mp hj
  omega
theorem mem_outL {m : Nat} {lot : List Int} {x : Int} : x ∈ outL m lot ↔ (0 ≤ x ∧ x < m) ∧ x ∉ lot := by
  unfold outL
  rw [List.mem_filter, List.mem_map]
  constructor
  · rintro ⟨⟨j, hj, rfl⟩, h⟩
    have := List.mem_range.mp hj
    exact ⟨by omega, by simpa using h⟩
  · rintro ⟨h, h2⟩
    exact ⟨⟨x.toNat, List.mem_range.mpr (by omega), by omega⟩, by simpa using h2⟩
abbrev sNLW : Stmt := top 20
abbrev sLdg : Stmt := top 21
abbrev sGof : Stmt := top 22
/-- an answer: the lot of what leads -/
def Ans (K : PySem.W.Frag) (H : Hp) (m : Nat) (lot goal : List Int) (ps : List (Int × Int)) (Q : VK) : Prop := ∀ (r : Addr) (out : List Int) (H' : Hp), Ext [] H H' → SqT K H' r (out.map V.int) → LotOk m out → (∀ x, x ∈ out ↔ x ∈ leadL lot goal ps) → Q (.ref r) H'
def spGoalIn (K : PySem.W.Frag) (Pw : Addr) : Sp := fun vs H Q _ => ∃ (t b g : Addr) (m : Nat) (ps : List (Int × Int)) (ca : List (List Int)) (shut goal : List Int), vs = [.ref t, .ref b, .ref g] ∧ DrAt K H t m (prL ps) ca ∧ m ≤ 10 ∧ SqT K H b (shut.map V.int) ∧ SqT K H g (goal.map V.int) ∧ LotOk m goal ∧ TabG H Pw ∧ Ans K H m (outL m shut) goal ps Q
def spNLW (K : PySem.W.Frag) (Pl : Addr) : Sp := fun vs H Q _ => ∃ (t b g : Addr) (m : Nat) (ar ca : List (List Int)) (lot goal : List Int), vs = [.ref t, .ref b, .ref g] ∧ DrAt K H t m ar ca ∧ DrOk m ar ca ∧ SqT K H b (lot.map V.int) ∧ SqT K H g (goal.map V.int) ∧ LotOk m lot ∧ LotOk m goal ∧ liesF goal lot = true ∧ TabG H Pl ∧ ∀ H', Ext [] H H' → Q (.ref g) H'
def spLdg (K : PySem.W.Frag) (Pl : Addr) : Sp := fun vs H Q _ => ∃ (t b g : Addr) (m : Nat) (ps : List (Int × Int)) (ca : List (List Int)) (lot goal : List Int), vs = [.ref t, .ref b, .ref g] ∧ DrAt K H t m (prL ps) ca ∧ DrOk m (prL ps) ca ∧ SqT K H b (lot.map V.int) ∧ SqT K H g (goal.map V.int) ∧ LotOk m lot ∧ LotOk m goal ∧ liesF goal lot = true ∧ TabG H Pl ∧ Ans K H m lot goal ps Q
def spGof (K : PySem.W.Frag) (Pm Pw : Addr) : Sp := fun vs H Q _ => ∃ (t b g : Addr) (m : Nat) (ps : List (Int × Int)) (ca : List (List Int)) (shut goal : List Int), vs = [.ref t, .ref b, .ref g] ∧ DrAt K H t m (prL ps) ca ∧ DrOk m (prL ps) ca ∧ SqT K H b (shut.map V.int) ∧ SqT K H g (goal.map V.int) ∧ LotOk m shut ∧ LotOk m goal ∧ meetsF goal shut = false ∧ TabG H Pm ∧ TabG H Pw ∧ Ans K H m (outL m shut) goal ps Q
section
variable {P : Program} {w : World} {K : PySem.W.Frag} {mg : Str → Option Value} {base : Heap}
theorem scGoalIn : FnScope ["drawing", "closed", "ends", "count", "arrows", "_"] ["drawing", "closed", "ends"] (defScope sGoalIn) := ⟨rfl, rfl, rfl, by decide +kernel, rfl, by decide +kernel, by decide +kernel⟩
theorem ok_goalIn {f c fL fW Pw : Addr} {fd fdL fdW : FuncData} (F : FunC K "goal_in" "goal_in" sGoalIn f fd c) (CL : CalG P w K mg base 1 "leading_in" fL fdL ["arrows", "lot", "goal"] (spLeadIn K)) (CW : CalG P w K mg base 1 "all_without" fW fdW ["count", "lot"] (spAllW K Pw)) :
    FnG P w K mg base 2 f fd ["drawing", "closed", "ends"] (spGoalIn K Pw) := by
  refine F.ok scGoalIn (fun vs H Q E h => ?_) (fun A outer s H vs Q hg hr h => ?_)
  · obtain ⟨_, _, _, _, _, _, _, _, rfl, _⟩ := h
    rfl
  · obtain ⟨t, b, g, m, ps, ca, shut, goal, rfl, hD, m10, hb, hgo, hgl, hT, q⟩ := h
    refine ⟨_, pss_cons (ps_asg (pv 0) (pg_tup rfl (pgs_cons (pg_name (i := 3) scGoalIn.nd rfl (Or.inl rfl)) (pgs_cons (pg_name (i := 4) scGoalIn.nd rfl (Or.inl rfl)) (pgs_cons (pg_name (i := 5) scGoalIn.nd rfl (Or.inl rfl)) pgs_nil)))))
      (pss_one (ps_ret (pg_call CL.g (gu hg) hr (by rfl) CL.m CL.k CL.b (pa_cons (pv 4) (pa_cons (pg_call CW.g (gu hg) hr (by rfl) CW.m CW.k CW.b (pa_cons (pv 3) (pa_cons (pv 1) pa_nil))) (pa_cons (pv 2) pa_nil)))))), ?_⟩
    obtain ⟨ta, tc, h1, h2, h3⟩ := id hD
    refine ⟨_, rfl, t, _, rfl, h1, rfl, _, _, rfl, _, _, rfl, _, _, rfl, rfl, ?_⟩
    refine ⟨_, rfl, _, rfl, _, rfl, m, b, shut, rfl, by omega, hb, hT, fun r H1 e1 hr1 => ?_⟩
    exact ⟨_, rfl, ta, r, g, m, ps, _, goal, rfl, h2.ext e1, hr1, e1.tup hgo, outL_lot m shut, hgl, m10, fun r2 out H2 e2 hr2 hl2 hm2 => q r2 out H2 (e1.trans e2) hr2 hl2 hm2⟩
theorem scNLW : FnScope ["drawing", "lot", "value"] ["drawing", "lot", "value"] (defScope sNLW) := ⟨rfl, rfl, rfl, by decide +kernel, rfl, by decide +kernel, by decide +kernel⟩
theorem ok_nlw {f c fL fI Pl : Addr} {fd fdL fdI : FuncData} (F : FunC K "need_lot_within" "need_lot_within" sNLW f fd c) (CL : CalG P w K mg base 5 "need_lot" fL fdL ["drawing", "value"] (spNLo K)) (CI : CalG P w K mg base 1 "lies_in" fI fdI ["lot", "other"] (spIn K Pl liesF)) :
    FnG P w K mg base 6 f fd ["drawing", "lot", "value"] (spNLW K Pl) := by
  refine F.ok scNLW (fun vs H Q E h => ?_) (fun A outer s H vs Q hg hr h => ?_)
  · obtain ⟨_, _, _, _, _, _, _, _, rfl, _⟩ := h
    rfl
  · obtain ⟨t, b, g, m, ar, ca, lot, goal, rfl, hD, ho, hb, hgo, hl, hgl, hli, hT, q⟩ := h
    refine ⟨_, pss_cons (ps_expr (pg_call CL.g (gu hg) hr (by rfl) CL.m CL.k CL.b (pa_cons (pv 0) (pa_cons (pv 1) pa_nil))))
      (pss_cons (ps_expr (pg_call CL.g (gu hg) hr (by rfl) CL.m CL.k CL.b (pa_cons (pv 0) (pa_cons (pv 2) pa_nil))))
      (pss_cons (ps_if (pt_not (pt_val (pg_call CI.g (gu hg) (hr.mono (by decide)) (by rfl) CI.m CI.k CI.b (pa_cons (pv 2) (pa_cons (pv 1) pa_nil))))) (pss_one ps_never) pss_nil)
      (pss_one (ps_ret (pv 2))))), ?_⟩
    refine ⟨_, rfl, _, rfl, t, b, m, ar, ca, lot, rfl, hD, ho, hb, hl, fun H1 e1 => ?_⟩
    refine ⟨_, rfl, _, rfl, t, g, m, ar, ca, goal, rfl, hD.ext e1, ho, e1.tup hgo, hgl, fun H2 e2 => ?_⟩
    replace e2 := e1.trans e2
    refine ⟨_, rfl, _, rfl, g, b, goal, lot, rfl, e2.tup hgo, e2.tup hb, e2.2 _ hT, fun H3 e3 => ?_⟩
    rw [hli]
    exact ⟨_, rfl, iteF ⟨_, rfl, q H3 (e2.trans e3)⟩⟩
theorem scLdg : FnScope ["drawing", "lot", "goal"] ["drawing", "lot", "goal"] (defScope sLdg) := ⟨rfl, rfl, rfl, by decide +kernel, rfl, by decide +kernel, by decide +kernel⟩
theorem ok_ldg {f c fN fL Pl : Addr} {fd fdN fdL : FuncData} (F : FunC K "leading" "leading" sLdg f fd c) (CN : CalG P w K mg base 6 "need_lot_within" fN fdN ["drawing", "lot", "value"] (spNLW K Pl)) (CL : CalG P w K mg base 1 "leading_in" fL fdL ["arrows", "lot", "goal"] (spLeadIn K)) :
    FnG P w K mg base 7 f fd ["drawing", "lot", "goal"] (spLdg K Pl) := by
  refine F.ok scLdg (fun vs H Q E h => ?_) (fun A outer s H vs Q hg hr h => ?_)
  · obtain ⟨_, _, _, _, _, _, _, _, rfl, _⟩ := h
    rfl
  · obtain ⟨t, b, g, m, ps, ca, lot, goal, rfl, hD, ho, hb, hgo, hl, hgl, hli, hT, q⟩ := h
    refine ⟨_, pss_cons (ps_expr (pg_call CN.g (gu hg) hr (by rfl) CN.m CN.k CN.b (pa_cons (pv 0) (pa_cons (pv 1) (pa_cons (pv 2) pa_nil)))))
      (pss_one (ps_ret (pg_call CL.g (gu hg) (hr.mono (by decide)) (by rfl) CL.m CL.k CL.b (pa_cons (pe_ix ix_tup (pv 0) pe_int (fun _ _ => rfl)) (pa_cons (pv 1) (pa_cons (pv 2) pa_nil)))))), ?_⟩
    refine ⟨_, rfl, _, rfl, _, rfl, t, b, g, m, _, ca, lot, goal, rfl, hD, ho, hb, hgo, hl, hgl, hli, hT, fun H1 e1 => ?_⟩
    obtain ⟨ta, tc, h1, h2, h3⟩ := hD.ext e1
    exact ⟨_, rfl, t, _, _, _, rfl, rfl, h1, atI_nat (j := 1) rfl, _, rfl, _, rfl, ta, b, g, m, ps, lot, goal, rfl, h2, e1.tup hb, e1.tup hgo, hl, hgl, ho.m10, fun r2 out H2 e2 hr2 hl2 hm2 => q r2 out H2 (e1.trans e2) hr2 hl2 hm2⟩
theorem scGof : FnScope ["drawing", "shut", "ends"] ["drawing", "shut", "ends"] (defScope sGof) := ⟨rfl, rfl, rfl, by decide +kernel, rfl, by decide +kernel, by decide +kernel⟩
theorem ok_gof {f c fL fM fG Pm Pw : Addr} {fd fdL fdM fdG : FuncData} (F : FunC K "goal_of" "goal_of" sGof f fd c) (CL : CalG P w K mg base 5 "need_lot" fL fdL ["drawing", "value"] (spNLo K)) (CM : CalG P w K mg base 1 "meets" fM fdM ["lot", "other"] (spIn K Pm meetsF)) (CG : CalG P w K mg base 2 "goal_in" fG fdG ["drawing", "closed", "ends"] (spGoalIn K Pw)) :
    FnG P w K mg base 6 f fd ["drawing", "shut", "ends"] (spGof K Pm Pw) := by
  refine F.ok scGof (fun vs H Q E h => ?_) (fun A outer s H vs Q hg hr h => ?_)
  · obtain ⟨_, _, _, _, _, _, _, _, rfl, _⟩ := h
    rfl
  · obtain ⟨t, b, g, m, ps, ca, shut, goal, rfl, hD, ho, hb, hgo, hl, hgl, hme, hT, hT2, q⟩ := h
    refine ⟨_, pss_cons (ps_expr (pg_call CL.g (gu hg) hr (by rfl) CL.m CL.k CL.b (pa_cons (pv 0) (pa_cons (pv 1) pa_nil))))
      (pss_cons (ps_expr (pg_call CL.g (gu hg) hr (by rfl) CL.m CL.k CL.b (pa_cons (pv 0) (pa_cons (pv 2) pa_nil))))
      (pss_cons (ps_if (pt_val (pg_call CM.g (gu hg) (hr.mono (by decide)) (by rfl) CM.m CM.k CM.b (pa_cons (pv 2) (pa_cons (pv 1) pa_nil)))) (pss_one ps_never) pss_nil)
      (pss_one (ps_ret (pg_call CG.g (gu hg) (hr.mono (by decide)) (by rfl) CG.m CG.k CG.b (pa_cons (pv 0) (pa_cons (pv 1) (pa_cons (pv 2) pa_nil)))))))), ?_⟩
    refine ⟨_, rfl, _, rfl, t, b, m, _, ca, shut, rfl, hD, ho, hb, hl, fun H1 e1 => ?_⟩
    refine ⟨_, rfl, _, rfl, t, g, m, _, ca, goal, rfl, hD.ext e1, ho, e1.tup hgo, hgl, fun H2 e2 => ?_⟩
    replace e2 := e1.trans e2
    refine ⟨_, rfl, _, rfl, g, b, goal, shut, rfl, e2.tup hgo, e2.tup hb, e2.2 _ hT, fun H3 e3 => ?_⟩
    rw [hme]
    replace e3 := e2.trans e3
    exact ⟨_, rfl, iteF ⟨_, rfl, _, rfl, _, rfl, t, b, g, m, ps, ca, shut, goal, rfl, hD.ext e3, ho.m10, e3.tup hb, e3.tup hgo, hgl, e3.2 _ hT2, fun r2 out H4 e4 hr2 hl2 hm2 => q r2 out H4 (e3.trans e4) hr2 hl2 hm2⟩⟩
end
end K3
set_option Elab.async false
set_option linter.all false
set_option maxRecDepth 100000
set_option maxHeartbeats 4000000
namespace K3
open PySem L2 G9 GxR RT
/-! ### rows of arrows -/
inductive Lead (ps : List (Int × Int)) (lot goal : List Int) : Int → Prop
  | base {x} : x ∈ goal → Lead ps lot goal x
  | step {x y} : (x, y) ∈ ps → x ∈ lot → Lead ps lot goal y → Lead ps lot goal x
inductive Com (ps : List (Int × Int)) (lot goal : List Int) : Int → Prop
  | base {x} : x ∈ goal → Com ps lot goal x
  | step {x y} : (x, y) ∈ ps → y ∈ lot → Com ps lot goal y → Com ps lot goal x
theorem Lead.more {ps ps' : List (Int × Int)} {lot lot' goal goal' : List Int} (h1 : ∀ p ∈ ps, p ∈ ps') (h2 : ∀ x ∈ lot, x ∈ lot') (h3 : ∀ x ∈ goal, x ∈ goal') {x : Int} (h : Lead ps lot goal x) : Lead ps' lot' goal' x := by
  induction h with
  | base h => exact .base (h3 _ h)
  | step a b _ ih => exact .step (h1 _ a) (h2 _ b) ih
theorem Lead.com {ps : List (Int × Int)} {lot goal : List Int} (h3 : ∀ x ∈ goal, x ∈ lot) {x : Int} (h : Lead ps lot goal x) : x ∈ lot ∧ Com ps lot goal x := by
  induction h with
  | base h => exact ⟨h3 _ h, .base h⟩
  | step a b _ ih => exact ⟨b, .step a ih.1 ih.2⟩
theorem Com.lead {ps : List (Int × Int)} {lot goal : List Int} {x : Int} (h : Com ps lot goal x) (hx : x ∈ lot) : Lead ps lot goal x := by
  induction h with
  | base h => exact .base h
  | step a b _ ih => exact .step a hx (ih b)
theorem lead_iff {ps : List (Int × Int)} {lot goal : List Int} (h3 : ∀ x ∈ goal, x ∈ lot) {x : Int} : Lead ps lot goal x ↔ x ∈ lot ∧ Com ps lot goal x := ⟨fun h => h.com h3, fun h => h.2.lead h.1⟩
theorem mem_leadL {lot goal : List Int} : ∀ {ps : List (Int × Int)}, (prL ps).Pairwise (· < ·) → (∀ p ∈ ps, p.1 < p.2) → ∀ x, x ∈ leadL lot goal ps ↔ Lead ps lot goal x
  | [], _, _, x => ⟨fun h => .base h, fun h => by
    cases h with
    | base h => exact h
    | step a _ _ => cases a⟩
  | p :: ps, hp, hlt, x => by
    have hp' := List.pairwise_cons.mp (show ([p.1, p.2] :: prL ps).Pairwise (· < ·) from hp)
    have ih := mem_leadL (lot := lot) (goal := goal) hp'.2 fun q hq => hlt q (List.mem_cons_of_mem _ hq)
    have plt := hlt p List.mem_cons_self
    have sub : ∀ y, y ∈ leadL lot goal ps → y ∈ leadL lot goal (p :: ps) := fun y hy => by
      rw [leadL_cons]
      split
      · split
        · exact hy
        · exact List.mem_cons_of_mem _ hy
      · exact hy
    have inv : ∀ y, y ∈ leadL lot goal (p :: ps) → y ∈ leadL lot goal ps ∨ (y = p.1 ∧ p.1 ∈ lot ∧ p.2 ∈ leadL lot goal ps) := fun y hy => by
      rw [leadL_cons] at hy
      split at hy
      · rename_i h
        split at hy
        · exact .inl hy
        · rcases List.mem_cons.mp hy with z | z
          · exact .inr ⟨z, h⟩
          · exact .inl z
      · exact .inl hy
    constructor
    · intro hx
      rcases inv x hx with h | ⟨rfl, h1, h2⟩
      · exact ((ih x).mp h).more (fun q hq => List.mem_cons_of_mem _ hq) (fun _ z => z) (fun _ z => z)
      · exact .step (y := p.2) List.mem_cons_self h1 (((ih _).mp h2).more (fun q hq => List.mem_cons_of_mem _ hq) (fun _ z => z) (fun _ z => z))
    · intro hx
      induction hx with
      | base h => exact sub _ ((ih _).mpr (.base h))
      | @step a b hab ha _ ihb =>
        rcases List.mem_cons.mp hab with z | z
        · subst z
          rcases inv _ ihb with h | ⟨h, _⟩
          · rw [leadL_cons, if_pos ⟨ha, h⟩]
            split
            · assumption
            · exact List.mem_cons_self
          · have h' : b = a := h
            have plt' : a < b := plt
            omega
        · rcases inv _ ihb with h | ⟨h, _⟩
          · exact sub _ ((ih _).mpr (.step z ha ((ih _).mp h)))
          · exfalso
            have hm : [a, b] ∈ prL ps := List.mem_map.mpr ⟨(a, b), z, rfl⟩
            have hlt2 := hp'.1 _ hm
            have hab2 := hlt (a, b) (List.mem_cons_of_mem _ z)
            have hab3 : a < b := hab2
            rcases List.cons_lt_cons_iff.mp hlt2 with y | ⟨y, _⟩
            · omega
            · omega
theorem rows_lt {m : Int} {ps : List (Int × Int)} (h : RowsOk m (prL ps)) : ∀ p ∈ ps, p.1 < p.2 ∧ p.2 < m := fun p hp => by
  have hm : [p.1, p.2] ∈ prL ps := List.mem_map.mpr ⟨p, hp, rfl⟩
  obtain ⟨h1, _⟩ := h.row _ hm
  have h2 := h1.asc
  have h3 := h1.bd p.2 (by simp)
  simp at h2
  exact ⟨h2, h3.2⟩
abbrev sCom : Stmt := top 28
abbrev sDue : Stmt := top 29
def spCom (K : PySem.W.Frag) (n : Nat) : Sp := fun vs H Q _ => ∃ (a b g : Addr) (m : Nat) (ps : List (Int × Int)) (lot tg : List Int) (s : Int), vs = [.ref a, .ref b, .int s, .ref g] ∧ TupsAt K H a (prL ps) ∧ (SqL K H b (lot.map V.int) ∨ SqT K H b (lot.map V.int)) ∧ SqT K H g (tg.map V.int) ∧ (∀ p ∈ ps, p.1 < p.2 ∧ p.2 < m) ∧
  s ≤ m ∧ (m : Int) - s < n ∧ ∀ r : Bool, (r = true ↔ Com ps lot tg s) → Q (.bl r) H
section
variable {P : Program} {w : World} {K : PySem.W.Frag} {mg : Str → Option Value} {base : Heap}
abbrev nmCom : List Str := ["arrows_so", "lot_so", "spot", "targets", "near", "far"]
theorem scCom : FnScope nmCom ["arrows_so", "lot_so", "spot", "targets"] (defScope sCom) := ⟨rfl, rfl, rfl, by decide +kernel, rfl, by decide +kernel, by decide +kernel⟩
theorem ok_com {f c : Addr} {fd : FuncData} (F : FunC K "_law_comes" "_law_comes" sCom f fd c) (bF : Binds K fd ["arrows_so", "lot_so", "spot", "targets"] []) (mF : mg "_law_comes" = some (.ref f)) :
    ∀ n : Nat, FnG P w K mg base n f fd ["arrows_so", "lot_so", "spot", "targets"] (spCom K n)
  | 0 => ⟨fun vs H Q E h => by obtain ⟨_, _, _, _, _, _, _, _, rfl, _⟩ := h; rfl, fun A outer s H args us vs Q _ _ _ _ _ h => by
      obtain ⟨_, _, _, m, _, _, _, s, _, _, _, _, _, h1, h2, _⟩ := h
      exfalso
      have h2' : (m : Int) - s < 0 := h2
      omega⟩
  | n + 1 => by
    have ih := ok_com F bF mF n
    refine F.ok scCom (fun vs H Q E h => ?_) (fun A outer s H vs Q hg hr h => ?_)
    · obtain ⟨_, _, _, _, _, _, _, _, rfl, _⟩ := h
      rfl
    · obtain ⟨a, b, g, m, ps, lot, tg, sp, rfl, ha, hb, hgo, hps, hs1, hs2, q⟩ := h
      refine ⟨_, pss_cons (ps_if (pt_cmpR (r := rIn K false) op_in_seq (pv 2) (pv 3) (by with_unfolding_all rfl)) (pss_one (ps_ret pe_bl)) pss_nil)
        (pss_cons (ps_for PassesOwn.never rfl (pi_tup (pv 0)) (pg_tup rfl (pgs_cons (pg_name (i := 4) scCom.nd rfl (Or.inl rfl)) (pgs_cons (pg_name (i := 5) scCom.nd rfl (Or.inl rfl)) pgs_nil)))
          (pss_one (ps_if (PW.pt (pw_and (pt_cmpR op_eq (pv 4) (pv 2) (nomark _)) (pw_and (pt_cmpR (r := rIn K false) op_in_seq (pv 5) (pv 1) (by with_unfolding_all rfl))
            (pw_and1 (pt_val (pg_call ih (gu hg) hr (by rfl) mF F.kp bF (pa_cons (pv 0) (pa_cons (pv 1) (pa_cons (pv 5) (pa_cons (pv 3) pa_nil)))))))))) (pss_one (ps_ret pe_bl)) pss_nil)))
        (pss_one (ps_ret pe_bl))), ?_⟩
      refine ⟨_, rfl, _, rfl, g, _, rfl, .inr hgo, rfl, flat_ints _, _, rfl, ?_⟩
      rw [inV_int]
      refine ite2 (fun hz => ?_) (fun hz => ?_)
      · exact q true ⟨fun _ => .base (of_decide_eq_true hz), fun _ => rfl⟩
      have hz' : ¬ sp ∈ tg := fun z => hz (decide_eq_true z)
      obtain ⟨ts, h1, h2⟩ := id ha
      refine ⟨_, rfl, a, rfl, ⟨_, h1⟩, for_tup (K := K) (a := a) (xs := ts.map V.ref) (fun i σ H' => H' = H ∧ ∃ (v4 v5 : Option V), σ = [some (.ref a), some (.ref b), some (.int sp), some (.ref g), v4, v5] ∧ ∀ p ∈ ps.take i, p.1 = sp → p.2 ∈ lot → ¬ Com ps lot tg p.2)
        ⟨rfl, none, none, rfl, fun p hp => by simp at hp⟩ (fun i σ H' _ ⟨e, _⟩ => e ▸ h1) ?_ ?_⟩
      · rintro i x σ H' hx ⟨rfl, v4, v5, rfl, hno⟩
        rw [List.getElem?_map] at hx
        cases et : ts[i]? with
        | none => rw [et] at hx; cases hx
        | some tt =>
          rw [et] at hx
          cases hx
          have hil : i < ps.length := by
            have := (List.getElem?_eq_some_iff.mp et).1
            rw [h2.len] at this
            unfold prL at this
            rwa [List.length_map] at this
          have ex := List.getElem?_eq_getElem hil
          generalize ps[i] = p at ex
          have er : (prL ps)[i]? = some [p.1, p.2] := by
            unfold prL
            rw [List.getElem?_map, ex]
            rfl
          have hm : p ∈ ps := List.mem_of_getElem? ex
          have ht := h2.get et er
          rw [take_snoc ex]
          refine ⟨tt, _, rfl, ht, rfl, _, _, rfl, _, _, rfl, rfl, ?_⟩
          refine ⟨_, rfl, _, rfl, rfl, _, rfl, ite2 (fun hy => ?_) (fun hy => ?_)⟩
          · have hy' : p.1 = sp := V.int.inj (of_decide_eq_true hy)
            refine ⟨_, rfl, _, rfl, b, _, rfl, hb, rfl, flat_ints _, _, rfl, ?_⟩
            rw [inV_int]
            refine ite2 (fun hl => ?_) (fun hl => ?_)
            · have hl' : p.2 ∈ lot := of_decide_eq_true hl
              have hlt := hps p hm
              refine ⟨_, rfl, _, rfl, _, rfl, _, rfl, a, b, g, m, ps, lot, tg, p.2, rfl, ha, hb, hgo, hps, by omega, by omega, fun r hr' => ⟨_, rfl, ite2 (fun hrt => ?_) (fun hrt => ?_)⟩⟩
              · exact q true ⟨fun _ => .step (y := p.2) (by rw [← hy']; exact hm) hl' (hr'.mp hrt), fun _ => rfl⟩
              · refine ⟨rfl, _, _, rfl, fun p' hp' h3 h4 => ?_⟩
                rcases List.mem_append.mp hp' with z | z
                · exact hno p' z h3 h4
                · rw [List.mem_singleton.mp z]
                  exact fun z2 => hrt (hr'.mpr z2)
            · have hl' : ¬ p.2 ∈ lot := fun z => hl (decide_eq_true z)
              refine iteF ⟨rfl, _, _, rfl, fun p' hp' h3 h4 => ?_⟩
              rcases List.mem_append.mp hp' with z | z
              · exact hno p' z h3 h4
              · rw [List.mem_singleton.mp z] at h4
                exact absurd h4 hl'
          · have hy' : ¬ p.1 = sp := fun z => hy (decide_eq_true (by rw [z]))
            refine iteF ⟨rfl, _, _, rfl, fun p' hp' h3 h4 => ?_⟩
            rcases List.mem_append.mp hp' with z | z
            · exact hno p' z h3 h4
            · rw [List.mem_singleton.mp z] at h3
              exact absurd h3 hy'
      · rintro σ H' ⟨rfl, v4, v5, rfl, hno⟩
        have hl : (ts.map V.ref).length = ps.length := by rw [List.length_map, h2.len]; unfold prL; rw [List.length_map]
        rw [hl, List.take_length] at hno
        refine q false ⟨fun z => (by cases z), fun z => ?_⟩
        exfalso
        cases z with
        | base h => exact hz' h
        | step h3 h4 h5 => exact hno _ h3 rfl h4 h5
end
end K3
set_option Elab.async false
set_option linter.all false
set_option maxRecDepth 100000
set_option maxHeartbeats 4000000
namespace K3
open PySem L2 G9 GxR RT
abbrev sDrawing : Stmt := top 27
def spDrawing (K : PySem.W.Frag) : Sp := fun vs H Q _ => ∃ (d c l : Addr) (n : Nat) (lo hi : Int), vs = [.ref d, .int lo, .int hi] ∧ StAt K H d c l n ∧ n ≤ 800000 ∧ 1 ≤ lo ∧ lo ≤ hi ∧ hi ≤ 10 ∧
  ∀ (t : Addr) (m : Nat) (ps : List (Int × Int)) (H' : Hp), StAt K H' d c l (n + 300) → Ext [d, l] H H' → lo ≤ m → m ≤ hi → DrOk m (prL ps) [] → DrAt K H' t m (prL ps) [] → Q (.ref t) H'
section
variable {P : Program} {w : World} {K : PySem.W.Frag} {mg : Str → Option Value} {base : Heap}
abbrev nmW : List Str := ["state", "low", "high", "count", "arrows_so", "near", "far"]
theorem scW : FnScope nmW ["state", "low", "high"] (defScope sDrawing) := ⟨rfl, rfl, rfl, by decide +kernel, rfl, by decide +kernel, by decide +kernel⟩
theorem ok_drawing {f c fD : Addr} {fd fdD : FuncData} (F : FunC K "_law_drawing" "_law_drawing" sDrawing f fd c) (T : Blt mg) (GD : FnG P w K mg base 2 fD fdD ["state", "limit"] (spDraw K)) (kD : PySem.W.keepIn K (.ref fD) = true) (bD : Binds K fdD ["state", "limit"] []) (mD : mg "_law_draw" = some (.ref fD)) :
    FnG P w K mg base 3 f fd ["state", "low", "high"] (spDrawing K) := by
  refine F.ok scW (fun vs H Q E h => ?_) (fun A outer s H vs Q hg hr h => ?_)
  · obtain ⟨_, _, _, _, _, _, rfl, _⟩ := h
    rfl
  · obtain ⟨d, cc, l, n, lo, hi, rfl, S, hn, lo1, lohi, hi10, q⟩ := h
    have hu := hu_of hr
    refine ⟨_, pss_cons (ps_set (i := 3) scW.nd rfl (Or.inl rfl) (pe_op op_add (pv 1) (pg_call GD (gu hg) hr (by rfl) mD kD bD (pa_cons (pv 0) (pa_cons (pe_op op_add (pe_op op_sub (pv 2) (pv 1)) pe_int) pa_nil)))))
      (pss_cons (ps_set (i := 4) scW.nd rfl (Or.inl rfl) (pe_lst pa_nil))
      (pss_cons (ps_for PassesOwn.never rfl (pi_range1 rfl T.range (pa_cons (pv 3) pa_nil)) (pg_name (i := 5) scW.nd rfl (Or.inr rfl))
        (pss_one (ps_set (i := 4) scW.nd rfl (Or.inl rfl) (pe_op op_cat (pv 4)
          (pe_lc (own := [("far", 6)]) (g := gName 6) rfl scW.nd (pi_range2 rfl T.range (pa_cons (pe_op op_add (pv 5) pe_int) (pa_cons (pv 3) pa_nil))) (blkOk_by (N := nmW) (sc := defScope sDrawing) (by decide +kernel)) (fun _ _ _ _ _ => pg_name (i := 6) scW.nd rfl (Or.inl rfl))
            (fun _ _ _ _ _ => pts_one (pt_cmpR op_eq (pg_call GD (gu hg) hr (by rfl) mD kD bD (pa_cons (pv 0) (pa_cons pe_int pa_nil))) pe_int (nomark _)))
            (fun _ _ _ _ _ => pe_tup (pa_cons (pv 5) (pa_cons (pv 6) pa_nil))))))))
      (pss_one (ps_ret (pe_tup (pa_cons (pv 3) (pa_cons (pe_callTy call_tuple_of (by rfl) T.tuple (by decide +kernel) (pa_cons (pv 4) pa_nil))
        (pa_cons (pe_tup pa_nil) pa_nil)))))))), ?_⟩
    refine ⟨_, rfl, _, rfl, _, rfl, _, rfl, _, _, rfl, rfl, _, _, rfl, rfl, ⟨d, cc, l, n, _, rfl, S, by omega, by omega, by omega, fun r H1 r0 r1 S1 E1 => ?_⟩⟩
    refine ⟨_, _, rfl, rfl, ?_⟩
    obtain ⟨m, hm⟩ : ∃ m : Nat, lo + r = (m : Int) := ⟨(lo + r).toNat, by omega⟩
    dsimp only
    rw [hm]
    have m1 : 1 ≤ m := by omega
    have m10 : m ≤ 10 := by omega
    refine ⟨by decide, fun pa hpa => ?_⟩
    have npa := S1.not hpa
    have S2 : StAt K (upd H1 pa (.lst [])) d cc l (n + 1) := S1.at npa
    have E2 : Ext [d, l] H (upd H1 pa (.lst [])) := E1.trans (.new hpa)
    have hpa2 : upd H1 pa (.lst []) pa = some (.lst []) := upd_same
    generalize upd H1 pa (.lst []) = H2 at S2 E2 hpa2
    refine ⟨_, rfl, (m : Int), rfl, by omega, by omega, ?_⟩
    rw [show ((m : Int)).toNat = m from rfl]
    refine for_range (lo := 0) (n := m) (fun i σ H' => ∃ (nr : Option V) (pa : Addr) (ts : List Addr) (ar : List (List Int)), σ = [some (.ref d), some (.int lo), some (.int hi), some (.int m), some (.ref pa), nr, none] ∧
      H' pa = some (.lst (ts.map V.ref)) ∧ RowsAt K H' ts ar ∧ ArrOk i m ar ∧ ar.length ≤ 10 * i ∧ StAt K H' d cc l (n + 1 + 10 * i) ∧ Ext [d, l] H H' ∧ (pa ≠ d ∧ pa ≠ cc ∧ pa ≠ l))
      ⟨none, pa, [], [], rfl, hpa2, .nil, ⟨.nil, fun _ h => by cases h⟩, by simp, S2, E2, npa⟩ ?_ ?_
    · rintro i σ H' hi ⟨nr, pa, ts, ar, rfl, hpa, hts, har, harl, hS, hE, npa⟩
      rw [Int.zero_add]
      refine ⟨_, rfl, ?_⟩
      refine ⟨_, rfl, _, _, rfl, rfl, _, rfl, _, _, rfl, ⟨by omega, by omega, by omega, by omega⟩, fun D hD => ?_⟩
      have nD := hS.not hD
      have nDa : pa ≠ D := ne_of_none hpa hD
      dsimp only
      refine lc_range (lo := (i : Int) + 1) (n := ((m : Int) - ((i : Int) + 1)).toNat) (fun k H2 => ∃ (fs : List Int) (tc : List Addr), H2 D = some (.lst (tc.map V.ref)) ∧ RowsAt K H2 tc (fs.map fun f => [(i : Int), f]) ∧ fs.Pairwise (· < ·) ∧ (∀ f ∈ fs, (i : Int) < f ∧ f < (i : Int) + 1 + k) ∧ fs.length ≤ k ∧
        StAt K H2 d cc l (n + 1 + 10 * i + k) ∧ Ext [d, l] H' H2)
        ⟨[], [], upd_same, .nil, .nil, fun _ h => (by cases h), Nat.le_refl _, hS.at nD, .new hD⟩ ?_ ?_
      · rintro k H2 hk ⟨fs, tc, hD2, hr2, has, hbd, hfl, hS2, hE2⟩
        refine ⟨rfl, _, rfl, d, cc, l, _, 2, rfl, hS2, by omega, by decide, by decide, fun r H3 r0 r1 S3 E3 => ?_⟩
        have hD3 : H3 D = some (.lst (tc.map V.ref)) := E3.own (not2 nD) hD2 fun _ z => by cases z
        refine ⟨rfl, _, rfl, ite2 (fun hz => ?_) (fun hz => ?_)⟩
        · refine ⟨_, rfl, _, rfl, (by show 2 ≤ sizeLine; decide), fun t ht => ?_⟩
          have ntD : D ≠ t := ne_of_none hD3 ht
          refine ⟨_, by rw [upd_ne ntD]; exact hD3, ?_, fs ++ [(i : Int) + 1 + k], tc ++ [t], ?_, ?_, ?_, ?_, ?_, ?_, ?_⟩
          · rw [List.length_map, hr2.len, List.length_map]
            exact small1000 (by omega)
          · rw [upd_same, List.map_append]
            rfl
          · rw [List.map_append]
            refine RowsAt.append ?_ (.cons ?_ .nil)
            · exact ((hr2.ext E3).ext (S := []) (.new ht)).ext (S := [D]) (Ext.put (o := .lst (tc.map V.ref)) (by rw [upd_ne ntD]; exact hD3) (fun _ z => by cases z) (fun z => z) (by simp))
            · exact .inl (.inl (by rw [upd_ne ntD.symm, upd_same]; rfl))
          · exact List.pairwise_append.mpr ⟨has, List.pairwise_singleton .., fun a ha b hb => by rw [List.mem_singleton.mp hb]; exact (hbd a ha).2⟩
          · intro f hf
            rcases List.mem_append.mp hf with z | z
            · have := hbd f z; omega
            · rw [List.mem_singleton.mp z]; omega
          · simp; omega
          · exact ((S3.mono (by omega)).ext (.new ht)).at nD
          · exact ((hE2.trans E3).trans (.new ht)).at (.of hD)
        · exact ⟨fs, tc, hD3, hr2.ext E3, has, fun f hf => (by have := hbd f hf; omega), by omega, S3.mono (by omega), hE2.trans E3⟩
      · rintro H2 ⟨fs, tc, hD2, hr2, has, hbd, hfl, hS2, hE2⟩
        have hpa2 : H2 pa = some (.lst (ts.map V.ref)) := hE2.own (not2 npa) hpa fun _ z => by cases z
        refine ⟨pa, D, _, _, rfl, rfl, hpa2, hD2, ?_, fun p hp => ?_⟩
        · rw [List.length_map, List.length_map, hr2.len, hts.len, List.length_map]
          exact Nat.le_of_lt (small1000 (by omega))
        · refine ⟨some (.int i), p, ts ++ tc, ar ++ fs.map fun f => [(i : Int), f], rfl, by rw [upd_same, List.map_append], ?_, ?_, ?_, (hS2.mono (by omega)).ext (.new hp), (hE.trans hE2).trans (.new hp), hS2.not hp⟩
          · exact RowsAt.append ((hts.ext hE2).ext (S := []) (.new hp)) (hr2.ext (S := []) (.new hp))
          · have := har.add (fs := fs) (by omega) has fun f hf => (by have := hbd f hf; omega)
            exact_mod_cast this
          · rw [List.length_append, List.length_map]; omega
    · rintro σ H' ⟨nr, pa, ts, ar, rfl, hpa, hts, har, harl, hS, hE, npa⟩
      refine ⟨_, rfl, _, rfl, pa, _, rfl, .inl ⟨.inl (.inl hpa), fun ta hta => ?_⟩⟩
      have e2 : Ext [] H' (upd H' ta (.tup (ts.map V.ref))) := .new hta
      have hta2 : SqT K (upd H' ta (.tup (ts.map V.ref))) ta (ts.map V.ref) := SqT.new
      generalize upd H' ta (.tup (ts.map V.ref)) = H2 at e2 hta2
      refine ⟨by show 0 ≤ sizeLine; decide, fun tc htc => ?_⟩
      have e3 : Ext [] H2 (upd H2 tc (.tup [])) := .new htc
      have htc2 : SqT K (upd H2 tc (.tup [])) tc [] := SqT.new
      generalize upd H2 tc (.tup []) = H3 at e3 htc2
      refine ⟨by show 3 ≤ sizeLine; decide, fun t ht => ?_⟩
      have e4 : Ext [] H3 (upd H3 t (.tup [.int m, .ref ta, .ref tc])) := .new ht
      have eAll := (e2.trans e3).trans e4
      have hro := har.rows
      obtain ⟨ps, rfl⟩ := two_pr hro.2
      refine q t m ps _ ((hS.ext eAll).mono (by omega)) (hE.trans eAll.any) (by omega) (by omega) ⟨m1, m10, hro.1, hro.2, by omega, ⟨.nil, fun xs h => by cases h⟩, by simp⟩ ?_
      exact ⟨ta, tc, SqT.new, ⟨ts, (e3.trans e4).tup hta2, hts.ext eAll⟩, ⟨[], e4.tup htc2, .nil⟩⟩
end
end K3
set_option Elab.async false
set_option linter.all false
set_option maxRecDepth 100000
set_option maxHeartbeats 4000000
namespace K3
open PySem L2 G9 GxR RT
theorem outL_succ (i : Nat) (lot : List Int) : outL (i + 1) lot = outL i lot ++ (if (!decide ((i : Int) ∈ lot)) = true then [(i : Int)] else []) := by
  unfold outL
  rw [List.range_succ, List.map_append, List.map_singleton, filter_snoc]
/-- tuple of [x for x in a lot if q x] -/
theorem filter_lot {n : Int} {xs : List Int} (h : LotOk n xs) (q : Int → Bool) : LotOk n (xs.filter q) := ⟨h.asc.filter _, fun x hx => h.bd x (List.mem_filter.mp hx).1⟩
abbrev nmDue : List Str := ["draw_so", "closed", "targets", "outside", "spot"]
def spDue (K : PySem.W.Frag) : Sp := fun vs H Q _ => ∃ (t b g : Addr) (m : Nat) (ps : List (Int × Int)) (ca : List (List Int)) (shut tg : List Int), vs = [.ref t, .ref b, .ref g] ∧ DrAt K H t m (prL ps) ca ∧ DrOk m (prL ps) ca ∧ SqT K H b (shut.map V.int) ∧ SqT K H g (tg.map V.int) ∧
  ∀ (r : Addr) (out : List Int) (H' : Hp), Ext [] H H' → SqT K H' r (out.map V.int) → LotOk m out → (∀ x, x ∈ out ↔ x ∈ outL m shut ∧ Com ps (outL m shut) tg x) → Q (.ref r) H'
section
variable {P : Program} {w : World} {K : PySem.W.Frag} {mg : Str → Option Value} {base : Heap}
theorem scDue : FnScope nmDue ["draw_so", "closed", "targets"] (defScope sDue) := ⟨rfl, rfl, rfl, by decide +kernel, rfl, by decide +kernel, by decide +kernel⟩
theorem ok_due {f c fC : Addr} {fd fdC : FuncData} (F : FunC K "_law_due" "_law_due" sDue f fd c) (T : Blt mg) (CC : CalG P w K mg base 11 "_law_comes" fC fdC ["arrows_so", "lot_so", "spot", "targets"] (spCom K 11)) :
    FnG P w K mg base 12 f fd ["draw_so", "closed", "targets"] (spDue K) := by
  refine F.ok scDue (fun vs H Q E h => ?_) (fun A outer s H vs Q hg hr h => ?_)
  · obtain ⟨_, _, _, _, _, _, _, _, rfl, _⟩ := h
    rfl
  · obtain ⟨t, b, g, m, ps, ca, shut, tg, rfl, hD, ho, hb, hgo, q⟩ := h
    refine ⟨_, pss_cons (ps_set (i := 3) scDue.nd rfl (Or.inr rfl)
        (pe_lc (own := [("spot", 4)]) (g := gName 4) rfl scDue.nd (pi_range1 rfl T.range (pa_cons (pe_ix (r := rIxT K) ix_tup (pv 0) pe_int (fun _ _ => rfl)) pa_nil)) (blkOk_by (N := nmDue) (sc := defScope sDue) (by decide +kernel)) (fun _ _ _ _ _ => pg_name (i := 4) scDue.nd rfl (Or.inl rfl))
          (fun _ _ _ _ _ => pts_one (pt_cmpR (r := rIn K true) op_notIn_seq (pv 4) (pv 1) (by with_unfolding_all rfl)))
          (fun _ _ _ _ _ => pv 4)))
      (pss_one (ps_ret (pe_callTy call_tuple_of (by rfl) T.tuple (by decide +kernel) (pa_cons
        (pe_lc (own := [("spot", 4)]) (g := gName 4) rfl scDue.nd (pi_list (pv 3)) (blkOk_by (N := nmDue) (sc := defScope sDue) (by decide +kernel)) (fun _ _ _ _ _ => pg_name (i := 4) scDue.nd rfl (Or.inl rfl))
          (fun _ _ _ _ _ => pts_one (pt_val (pg_call CC.g (gu hg) hr (by rfl) CC.m CC.k CC.b (pa_cons (pe_ix (r := rIxT K) ix_tup (pv 0) pe_int (fun _ _ => rfl)) (pa_cons (pv 3) (pa_cons (pv 4) (pa_cons (pv 2) pa_nil)))))))
          (fun _ _ _ _ _ => pv 4)) pa_nil)))), ?_⟩
    have m10 := ho.m10
    obtain ⟨ta, tc, h1, h2, h3⟩ := id hD
    refine ⟨_, rfl, t, _, _, _, rfl, rfl, h1, atI_nat (j := 0) rfl, (m : Int), rfl, by omega, by omega, fun D hD1 => ?_⟩
    rw [show ((m : Int)).toNat = m from rfl]
    refine lc_range (lo := 0) (n := m) (fun i H' => Ext [] H H' ∧ H' D = some (.lst ((outL i shut).map V.int))) ⟨.new hD1, upd_same⟩ ?_ ?_
    · rintro i H' hi ⟨e, hd⟩
      rw [Int.zero_add]
      refine ⟨rfl, _, rfl, _, rfl, b, _, rfl, .inr (e.tup hb), rfl, flat_ints _, _, rfl, ?_⟩
      rw [inV_int, outL_succ]
      refine ite2 (fun hz => ?_) (fun hz => ?_)
      · have hz : (!decide ((i : Int) ∈ shut)) = true := hz
        refine ⟨_, rfl, _, hd, ?_, e.at (.of hD1), ?_⟩
        · rw [List.length_map]
          exact small1000 (Nat.le_trans (outL_lot i shut).len (by omega))
        · rw [if_pos hz, upd_same, List.map_append]
          rfl
      · have hz : ¬ (!decide ((i : Int) ∈ shut)) = true := hz
        exact ⟨e, by rw [if_neg hz, List.append_nil]; exact hd⟩
    · rintro H1 ⟨e1, hd1⟩
      have hls := outL_lot m shut
      refine ⟨_, rfl, D, rfl, ⟨_, .inl (.inl hd1)⟩, fun D2 hD2 => ?_⟩
      obtain ⟨cq, hcq⟩ : ∃ cq : Int → Bool, ∀ x, cq x = true ↔ Com ps (outL m shut) tg x := ⟨fun x => @decide (Com ps (outL m shut) tg x) (Classical.propDecidable _), fun x => @decide_eq_true_iff _ (Classical.propDecidable _)⟩
      refine lc_list (xs := (outL m shut).map V.int) (fun i H' => Ext [] H1 H' ∧ H' D2 = some (.lst ((((outL m shut).take i).filter cq).map V.int))) ⟨.new hD2, upd_same⟩ (fun i H' _ e => e.1.lst (by simp) (.inl (.inl hd1))) ?_ ?_
      · rintro i x H' hx ⟨e, hd⟩
        rw [List.getElem?_map] at hx
        cases ei : (outL m shut)[i]? with
        | none => rw [ei] at hx; cases hx
        | some z =>
          rw [ei] at hx
          cases hx
          have hzm : z ∈ outL m shut := List.mem_of_getElem? ei
          have hzb := hls.bd z hzm
          have e1' := e1.trans e
          obtain ⟨ta, tc, h1, h2, h3⟩ := hD.ext e1'
          refine ⟨rfl, _, rfl, t, _, _, _, rfl, rfl, h1, atI_nat (j := 1) rfl, _, rfl, _, rfl, _, rfl, ta, D, g, m, ps, outL m shut, tg, z, rfl, h2, .inl (e.lst (by simp) (.inl (.inl hd1))), e1'.tup hgo, rows_lt ho.ra, by omega, by omega, fun r hr' => ⟨_, rfl, ?_⟩⟩
          have er : r = cq z := by
            rw [Bool.eq_iff_iff, hr', hcq]
          subst er
          rw [take_snoc ei, filter_snoc]
          refine ite2 (fun hz => ?_) (fun hz => ?_)
          · refine ⟨_, rfl, _, hd, ?_, e.at (.of hD2), ?_⟩
            · rw [List.length_map]
              exact small1000 (Nat.le_trans (len_filter_take (hls.len)) (by omega))
            · rw [if_pos hz, upd_same, List.map_append]
              rfl
          · exact ⟨e, by rw [if_neg hz, List.append_nil]; exact hd⟩
      · rintro H2 ⟨e2, hd2⟩
        rw [List.length_map, List.take_length] at hd2
        refine ⟨D2, _, rfl, .inl ⟨.inl (.inl hd2), fun r hr2 => ?_⟩⟩
        refine q r _ _ ((e1.trans e2).trans (.new hr2)) SqT.new (filter_lot hls cq) fun x => ?_
        rw [List.mem_filter, hcq]
end
end K3
set_option Elab.async false
set_option linter.all false
set_option maxRecDepth 100000
set_option maxHeartbeats 4000000
namespace K3
open PySem L2 G9 GxR RT
/-- a comprehension over enumerate(a list) -/
theorem lc_enumL {K : PySem.W.Frag} {a : Addr} {xs : List V} {g : TG} {tt : TT} {te : TE} {vs : List Nat} {σ : L2.St} {H1 : Hp} {D : Addr} {Qd : Hp → Prop} (Pv : Nat → Hp → Prop) (h0 : Pv 0 (upd H1 D (.lst []))) (hl : ∀ i H, i ≤ xs.length → Pv i H → SqL K H a xs)
    (hs : ∀ i x T H, xs[i]? = some x → Pv i H → H T = none → g (.ref T) (wipe σ vs) (upd H T (.tup [.int (i : Nat), x])) fun σ2 H2 => wipe σ2 vs = wipe σ vs ∧ tt σ2 H2 fun b H3 =>
      if b = true then te σ2 H3 fun y H4 => ∃ acc, H4 D = some (.lst acc) ∧ acc.length < sizeLine ∧ Pv (i + 1) (upd H4 D (.lst (acc ++ [y]))) else Pv (i + 1) H3) (hd : ∀ H, Pv xs.length H → Qd H) :
    ∃ W : Nat → Nat → Hp → Prop, (∃ m, W 0 m (upd H1 D (.lst []))) ∧ ∀ i m H, W i m H →
      ((Ite K a).stop i H ∧ Qd H) ∨ ((Ite K a).go i H ∧ ∃ Nx : Hp → Prop, (∀ H', Nx H' → ∃ m', m' < m ∧ W (i + 1) m' H') ∧ ∀ x H', (Ite K a).yld i H x H' → g x (wipe σ vs) H' fun σ2 H2 => wipe σ2 vs = wipe σ vs ∧ tt σ2 H2 fun b H3 =>
        if b = true then te σ2 H3 fun y H4 => ∃ acc, H4 D = some (.lst acc) ∧ acc.length < sizeLine ∧ Nx (upd H4 D (.lst (acc ++ [y]))) else Nx H3) := by
  refine ⟨fun i m H => m = xs.length - i ∧ i ≤ xs.length ∧ Pv i H, ⟨_, rfl, Nat.zero_le _, h0⟩, ?_⟩
  rintro i m H ⟨rfl, hi, p⟩
  have sq := hl i H hi p
  rcases Nat.lt_or_ge i xs.length with hlt | hge
  · refine .inr ⟨⟨xs, xs[i], sq, List.getElem?_eq_getElem hlt⟩, Pv (i + 1), fun H' p' => ⟨_, by omega, rfl, hlt, p'⟩, fun x H' hy => ?_⟩
    obtain ⟨T, x', rfl, hT, rfl, hx⟩ := hy
    exact hs i x' T H (hx xs sq) p hT
  · have e : i = xs.length := by omega
    subst e
    exact .inl ⟨⟨xs, sq, Nat.le_refl _⟩, hd H p⟩

/-- the places of what passes -/
def selL (q : Int → Bool) (ks : List Int) : List Int := (ks.zipIdx.filter fun p => q p.1).map fun p => (p.2 : Int)
theorem selL_snoc (q : Int → Bool) (ks : List Int) (k : Int) : selL q (ks ++ [k]) = selL q ks ++ (if q k = true then [(ks.length : Int)] else []) := by
  unfold selL
  rw [List.zipIdx_append, List.filter_append, List.map_append]
  congr 1
  simp only [List.zipIdx_cons, List.zipIdx_nil, Nat.zero_add, List.filter_cons, List.filter_nil]
  by_cases h : q k = true <;> simp [h]
theorem mem_selL {q : Int → Bool} {ks : List Int} {x : Int} : x ∈ selL q ks ↔ ∃ (j : Nat) (k : Int), ks[j]? = some k ∧ q k = true ∧ x = (j : Int) := by
  unfold selL
  rw [List.mem_map]
  constructor
  · rintro ⟨⟨k, j⟩, h, rfl⟩
    obtain ⟨h1, h2⟩ := List.mem_filter.mp h
    exact ⟨j, k, List.mem_zipIdx_iff_getElem?.mp h1, h2, rfl⟩
  · rintro ⟨j, k, h1, h2, rfl⟩
    exact ⟨(k, j), List.mem_filter.mpr ⟨List.mem_zipIdx_iff_getElem?.mpr h1, h2⟩, rfl⟩
theorem selL_lot (q : Int → Bool) : ∀ ks : List Int, LotOk ks.length (selL q ks) := by
  intro ks
  have key : ∀ (l : List Int) (k : Nat), ((l.zipIdx k).filter fun p => q p.1).map (fun p => (p.2 : Int)) |>.Pairwise (· < ·) := by
    intro l
    induction l with
    | nil => intro k; exact .nil
    | cons x l ih =>
      intro k
      rw [List.zipIdx_cons, List.filter_cons]
      split
      · rw [List.map_cons]
        refine List.pairwise_cons.mpr ⟨fun y hy => ?_, ih (k + 1)⟩
        obtain ⟨p, hp, rfl⟩ := List.mem_map.mp hy
        have := (List.mem_zipIdx (List.mem_filter.mp hp).1).1
        show (k : Int) < (p.2 : Int)
        omega
      · exact ih (k + 1)
  refine ⟨key ks 0, fun x hx => ?_⟩
  obtain ⟨j, k, h1, h2, rfl⟩ := mem_selL.mp hx
  have := (List.getElem?_eq_some_iff.mp h1).1
  omega
theorem selL_len {q : Int → Bool} {ks : List Int} : (selL q ks).length ≤ ks.length := (selL_lot q ks).len
theorem meets_false {xs ys : List Int} (h : ∀ x ∈ xs, x ∉ ys) : meetsF xs ys = false := by
  unfold meetsF
  rw [Bool.eq_false_iff]
  intro z
  obtain ⟨b, hb, h2⟩ := List.any_eq_true.mp z
  obtain ⟨x, hx, rfl⟩ := List.mem_map.mp hb
  exact h x hx (of_decide_eq_true h2)
theorem lies_true {xs ys : List Int} (h : ∀ x ∈ xs, x ∈ ys) : liesF xs ys = true := by
  unfold liesF
  rw [List.all_eq_true]
  intro b hb
  obtain ⟨x, hx, rfl⟩ := List.mem_map.mp hb
  exact decide_eq_true (h x hx)
end K3
set_option Elab.async false
set_option linter.all false
set_option maxRecDepth 100000
set_option maxHeartbeats 8000000
namespace K3
open PySem L2 G9 GxR RT
abbrev sRight : Stmt := top 31
abbrev nmR : List Str := ["state", "draw_so", "kinds", "closed", "targets", "due", "open_so", "less", "more", "others_so", "spot", "kind"]
def spRight (K : PySem.W.Frag) (Pl Pm Pw : Addr) : Sp := fun vs H Q _ => ∃ (d c l : Addr) (n : Nat), vs = [.ref d] ∧ StAt K H d c l n ∧ n ≤ 700000 ∧ TabG H Pl ∧ TabG H Pm ∧ TabG H Pw ∧ ∀ H', StAt K H' d c l (n + 400) → Ext [d, l] H H' → Q (.bl true) H'
section
variable {P : Program} {w : World} {K : PySem.W.Frag} {mg : Str → Option Value} {base : Heap}
theorem scR : FnScope nmR ["state"] (defScope sRight) := ⟨rfl, rfl, rfl, by decide +kernel, rfl, by decide +kernel, by decide +kernel⟩
theorem ok_right {f c fW fD fU fK fG fL Pl Pm Pw : Addr} {fd fdW fdD fdU fdK fdG fdL : FuncData} (F : FunC K "_law_right" "_law_right" sRight f fd c) (T : Blt mg)
    (CW : CalG P w K mg base 3 "_law_drawing" fW fdW ["state", "low", "high"] (spDrawing K)) (CD : CalG P w K mg base 2 "_law_draw" fD fdD ["state", "limit"] (spDraw K)) (CU : CalG P w K mg base 12 "_law_due" fU fdU ["draw_so", "closed", "targets"] (spDue K))
    (CK : CalG P w K mg base 1 "_law_like" fK fdK ["got", "due"] (spLike K)) (CG : CalG P w K mg base 6 "goal_of" fG fdG ["drawing", "shut", "ends"] (spGof K Pm Pw)) (CL : CalG P w K mg base 7 "leading" fL fdL ["drawing", "lot", "goal"] (spLdg K Pl)) :
    FnG P w K mg base 13 f fd ["state"] (spRight K Pl Pm Pw) := by
  refine F.ok scR (fun vs H Q E h => ?_) (fun A outer s H vs Q hg hr h => ?_)
  · obtain ⟨_, _, _, _, rfl, _⟩ := h
    rfl
  · obtain ⟨d, cc, l, n, rfl, S, hn, hT1, hT2, hT3, q⟩ := h
    refine ⟨_, pss_cons (ps_set (i := 1) scR.nd rfl (Or.inr rfl) (pg_call CW.g (gu hg) (hr.mono (by decide)) (by rfl) CW.m CW.k CW.b (pa_cons (pv 0) (pa_cons pe_int (pa_cons pe_int pa_nil)))))
      (pss_cons (ps_setLc (i := 2) (own := [("spot", 10)]) (g := gName 10) rfl scR.nd rfl rfl (sw_true rfl rfl rfl (by decide +kernel)) (pi_range1 rfl T.range (pa_cons (pe_ix (r := rIxT K) ix_tup (pv 1) pe_int (fun _ _ => rfl)) pa_nil)) (blkOk_by (N := nmR) (sc := defScope sRight) (by decide +kernel)) (fun _ _ _ _ _ => pg_name (i := 10) scR.nd rfl (Or.inl rfl)) (fun _ _ _ _ _ => pts_nil) (fun _ _ _ _ _ => pg_call CD.g (gu hg) (hr.mono (by decide)) (by rfl) CD.m CD.k CD.b (pa_cons (pv 0) (pa_cons pe_int pa_nil))))
      (pss_cons (ps_set (i := 3) scR.nd rfl (Or.inr rfl) (pe_callTy call_tuple_of (by rfl) T.tuple (by decide +kernel) (pa_cons (pe_lc (own := [("spot", 10), ("kind", 11)]) (g := gTup K 2 (gCons (gName 10) (gCons (gName 11) gNil))) rfl scR.nd (pi_enum (by rfl) T.enumerate (pa_cons (pv 2) pa_nil)) (blkOk_by (N := nmR) (sc := defScope sRight) (by decide +kernel)) (fun _ _ _ _ _ => pg_tup rfl (pgs_cons (pg_name (i := 10) scR.nd rfl (Or.inl rfl)) (pgs_cons (pg_name (i := 11) scR.nd rfl (Or.inl rfl)) pgs_nil))) (fun _ _ _ _ _ => pts_one (pt_cmpR op_eq (pv 11) pe_int (nomark _))) (fun _ _ _ _ _ => pv 10)) pa_nil)))
      (pss_cons (ps_set (i := 4) scR.nd rfl (Or.inr rfl) (pe_callTy call_tuple_of (by rfl) T.tuple (by decide +kernel) (pa_cons (pe_lc (own := [("spot", 10), ("kind", 11)]) (g := gTup K 2 (gCons (gName 10) (gCons (gName 11) gNil))) rfl scR.nd (pi_enum (by rfl) T.enumerate (pa_cons (pv 2) pa_nil)) (blkOk_by (N := nmR) (sc := defScope sRight) (by decide +kernel)) (fun _ _ _ _ _ => pg_tup rfl (pgs_cons (pg_name (i := 10) scR.nd rfl (Or.inl rfl)) (pgs_cons (pg_name (i := 11) scR.nd rfl (Or.inl rfl)) pgs_nil))) (fun _ _ _ _ _ => pts_one (pt_cmpR op_eq (pv 11) pe_int (nomark _))) (fun _ _ _ _ _ => pv 10)) pa_nil)))
      (pss_cons (ps_set (i := 5) scR.nd rfl (Or.inl rfl) (pg_call CU.g (gu hg) hr (by rfl) CU.m CU.k CU.b (pa_cons (pv 1) (pa_cons (pv 3) (pa_cons (pv 4) pa_nil)))))
      (pss_cons (ps_if (pt_not (pt_val (pg_call CK.g (gu hg) (hr.mono (by decide)) (by rfl) CK.m CK.k CK.b (pa_cons (pg_call CG.g (gu hg) (hr.mono (by decide)) (by rfl) CG.m CG.k CG.b (pa_cons (pv 1) (pa_cons (pv 3) (pa_cons (pv 4) pa_nil)))) (pa_cons (pv 5) pa_nil))))) (pss_one ps_never) pss_nil)
      (pss_cons (ps_set (i := 6) scR.nd rfl (Or.inl rfl) (pe_callTy call_tuple_of (by rfl) T.tuple (by decide +kernel) (pa_cons (pe_lc (own := [("spot", 10)]) (g := gName 10) rfl scR.nd (pi_range1 rfl T.range (pa_cons (pe_ix (r := rIxT K) ix_tup (pv 1) pe_int (fun _ _ => rfl)) pa_nil)) (blkOk_by (N := nmR) (sc := defScope sRight) (by decide +kernel)) (fun _ _ _ _ _ => pg_name (i := 10) scR.nd rfl (Or.inl rfl)) (fun _ _ _ _ _ => pts_one (pt_cmpR (r := rIn K true) op_notIn_seq (pv 10) (pv 3) (by with_unfolding_all rfl))) (fun _ _ _ _ _ => pv 10)) pa_nil)))
      (pss_cons (ps_if (pt_not (pt_val (pg_call CK.g (gu hg) (hr.mono (by decide)) (by rfl) CK.m CK.k CK.b (pa_cons (pg_call CL.g (gu hg) (hr.mono (by decide)) (by rfl) CL.m CL.k CL.b (pa_cons (pv 1) (pa_cons (pv 6) (pa_cons (pv 4) pa_nil)))) (pa_cons (pv 5) pa_nil))))) (pss_one ps_never) pss_nil)
      (pss_cons (ps_set (i := 7) scR.nd rfl (Or.inr rfl) (pe_slice (r := rSlA K) sl_tupA (pv 3) po_none (po_some (pe_un un_neg pe_int))))
      (pss_cons (ps_if (pt_cmpR (op_neD hr.units) (pe_lc (own := [("spot", 10)]) (g := gName 10) rfl scR.nd (pi_tup (pv 5)) (blkOk_by (N := nmR) (sc := defScope sRight) (by decide +kernel)) (fun _ _ _ _ _ => pg_name (i := 10) scR.nd rfl (Or.inl rfl)) (fun _ _ _ _ _ => pts_one (pt_cmpR (r := rIn K true) op_notIn_seq (pv 10) (pg_call CG.g (gu hg) (hr.mono (by decide)) (by rfl) CG.m CG.k CG.b (pa_cons (pv 1) (pa_cons (pv 7) (pa_cons (pv 4) pa_nil)))) (by with_unfolding_all rfl))) (fun _ _ _ _ _ => pe_int)) (pe_lst pa_nil) (nomark _)) (pss_one ps_never) pss_nil)
      (pss_cons (ps_set (i := 8) scR.nd rfl (Or.inr rfl) (pe_callTy call_tuple_of (by rfl) T.tuple (by decide +kernel) (pa_cons (pe_lc (own := [("spot", 10), ("kind", 11)]) (g := gTup K 2 (gCons (gName 10) (gCons (gName 11) gNil))) rfl scR.nd (pi_enum (by rfl) T.enumerate (pa_cons (pv 2) pa_nil)) (blkOk_by (N := nmR) (sc := defScope sRight) (by decide +kernel)) (fun _ _ _ _ _ => pg_tup rfl (pgs_cons (pg_name (i := 10) scR.nd rfl (Or.inl rfl)) (pgs_cons (pg_name (i := 11) scR.nd rfl (Or.inl rfl)) pgs_nil))) (fun _ _ _ _ _ => pts_one (pt_cmpR (r := rIn K false) op_in_seq (pv 11) (pe_tup (pa_cons pe_int (pa_cons pe_int pa_nil))) (by with_unfolding_all rfl))) (fun _ _ _ _ _ => pv 10)) pa_nil)))
      (pss_cons (ps_if (pt_cmpR (op_neD hr.units) (pe_lc (own := [("spot", 10)]) (g := gName 10) rfl scR.nd (pi_tup (pv 5)) (blkOk_by (N := nmR) (sc := defScope sRight) (by decide +kernel)) (fun _ _ _ _ _ => pg_name (i := 10) scR.nd rfl (Or.inl rfl)) (fun _ _ _ _ _ => pts_one (pt_cmpR (r := rIn K true) op_notIn_seq (pv 10) (pg_call CG.g (gu hg) (hr.mono (by decide)) (by rfl) CG.m CG.k CG.b (pa_cons (pv 1) (pa_cons (pv 3) (pa_cons (pv 8) pa_nil)))) (by with_unfolding_all rfl))) (fun _ _ _ _ _ => pe_int)) (pe_lst pa_nil) (nomark _)) (pss_one ps_never) pss_nil)
      (pss_cons (ps_set (i := 9) scR.nd rfl (Or.inl rfl) (pe_callTy call_tuple_of (by rfl) T.tuple (by decide +kernel) (pa_cons (pe_lc (own := [("spot", 10)]) (g := gName 10) rfl scR.nd (pi_range1 rfl T.range (pa_cons (pe_ix (r := rIxT K) ix_tup (pv 1) pe_int (fun _ _ => rfl)) pa_nil)) (blkOk_by (N := nmR) (sc := defScope sRight) (by decide +kernel)) (fun _ _ _ _ _ => pg_name (i := 10) scR.nd rfl (Or.inl rfl)) (fun _ _ _ _ _ => pts_one (pt_cmpR (r := rIn K true) op_notIn_seq (pv 10) (pv 4) (by with_unfolding_all rfl))) (fun _ _ _ _ _ => pv 10)) pa_nil)))
      (pss_one (ps_ret (pg_call CK.g (gu hg) (hr.mono (by decide)) (by rfl) CK.m CK.k CK.b (pa_cons (pe_lst (pa_cons (pg_call CG.g (gu hg) (hr.mono (by decide)) (by rfl) CG.m CG.k CG.b (pa_cons (pv 1) (pa_cons (pv 9) (pa_cons (pv 4) pa_nil)))) (pa_cons (pg_call CG.g (gu hg) (hr.mono (by decide)) (by rfl) CG.m CG.k CG.b (pa_cons (pv 1) (pa_cons (pv 3) (pa_cons (pe_tup pa_nil) pa_nil)))) pa_nil))) (pa_cons (pe_lst (pa_cons (pv 4) (pa_cons (pe_tup pa_nil) pa_nil))) pa_nil))))))))))))))))), ?_⟩
    refine ⟨_, rfl, d, cc, l, n, 1, 10, rfl, S, by omega, by decide, by decide, by decide, fun t m ps H1 S1 E1 m1 m10 ok hD => ?_⟩
    have m10' := ok.m10
    have hM : ∀ lot goal x, x ∈ leadL lot goal ps ↔ Lead ps lot goal x := fun lot goal => mem_leadL ok.ra.asc fun p hp => (rows_lt ok.ra p hp).1
    -- kinds
    obtain ⟨ta, tc, h1, h2, h3⟩ := id hD
    refine ⟨_, rfl, t, _, _, _, rfl, rfl, h1, atI_nat (j := 0) rfl, (m : Int), rfl, by omega, by omega, fun Dk hDk => ?_⟩
    rw [show ((m : Int)).toNat = m from rfl]
    have nDk := S1.not hDk
    refine lc_range (lo := 0) (n := m) (fun i H' => ∃ ks : List Int, H' Dk = some (.lst (ks.map V.int)) ∧ ks.length = i ∧ (∀ k ∈ ks, 0 ≤ k ∧ k < 4) ∧ StAt K H' d cc l (n + 300 + i) ∧ Ext [d, l] H1 H') ⟨[], upd_same, rfl, fun k z => (by cases z), S1.at nDk, .new hDk⟩ ?_ ?_
    · rintro i H' hi ⟨ks, hd, hl, hb, hS, hE⟩
      refine ⟨rfl, _, rfl, d, cc, l, _, 4, rfl, hS, by omega, by decide, by decide, fun r H2 r0 r1 S2 E2 => ?_⟩
      refine ⟨_, E2.own (not2 nDk) hd (fun _ z => by cases z), ?_, ks ++ [r], ?_, ?_, ?_, ?_, ?_⟩
      · rw [List.length_map]
        exact small1000 (by omega)
      · rw [upd_same, List.map_append]
        rfl
      · simp [hl]
      · intro k hk
        rcases List.mem_append.mp hk with z | z
        · exact hb k z
        · rw [List.mem_singleton.mp z]; omega
      · exact (S2.mono (by omega)).at nDk
      · exact (hE.trans E2).at (.of hDk)
    rintro H2 ⟨ks, hks, hkl, hkb, S2, E2⟩
    subst hkl
    replace hD := hD.ext E2
    have E02 := E1.trans E2
    have t1 := E02.2 _ hT1
    have t2 := E02.2 _ hT2
    have t3 := E02.2 _ hT3
    have e0 : Ext [] H2 H2 := .refl _
    -- A
    have hkA : SqL K H2 Dk (ks.map V.int) := .inl (.inl (e0.own (a := Dk) (by simp) hks (fun _ z => by cases z)))
    refine ⟨_, rfl, Dk, _, rfl, hkA, fun D1 hD1 => ?_⟩
    refine lc_enumL (xs := ks.map V.int) (fun i H' => Ext [] H2 H' ∧ H' D1 = some (.lst ((selL (fun k => decide (k = 0)) (ks.take i)).map V.int))) ⟨.new hD1, upd_same⟩ (fun i H' _ e => e.1.lst (by simp) hkA) ?_ ?_
    · rintro i x T' H' hx ⟨e, hd⟩ hT'
      rw [List.getElem?_map] at hx
      cases ek : ks[i]? with
      | none => rw [ek] at hx; cases hx
      | some k =>
        rw [ek] at hx
        cases hx
        have hil := (List.getElem?_eq_some_iff.mp ek).1
        have hlen : (ks.take i).length = i := by rw [List.length_take]; omega
        have e3 : Ext [] H' (upd H' T' (.tup [.int (i : Nat), .int k])) := .new hT'
        have hd3 := e3.own (a := D1) (by simp) hd (fun _ z => by cases z)
        rw [take_snoc ek, selL_snoc, hlen]
        refine ⟨T', _, rfl, SqT.new, rfl, _, _, rfl, _, _, rfl, rfl, rfl, _, rfl, rfl, _, rfl, ?_⟩
        have hzi : decide (V.int k = V.int 0) = true → ((fun k => decide (k = 0))) k = true := fun z => decide_eq_true (V.int.inj (of_decide_eq_true z))
        have hzj : ((fun k => decide (k = 0))) k = true → decide (V.int k = V.int 0) = true := fun z => decide_eq_true (congrArg V.int (of_decide_eq_true z))
        refine ite2 (fun hz => ?_) (fun hz => ?_)
        · have hz : ((fun k => decide (k = 0))) k = true := hzi hz
          refine ⟨_, rfl, _, hd3, ?_, (e.trans e3).at (Fre.of hD1), ?_⟩
          · rw [List.length_map]
            exact small1000 (Nat.le_trans selL_len (by rw [hlen]; omega))
          · rw [if_pos hz, upd_same, List.map_append]
            rfl
        · have hz : ¬ ((fun k => decide (k = 0))) k = true := fun z => hz (hzj z)
          exact ⟨e.trans e3, by rw [if_neg hz, List.append_nil]; exact hd3⟩
    rintro GA ⟨fA, hdA⟩
    rw [List.length_map, List.take_length] at hdA
    refine ⟨D1, _, rfl, .inl ⟨.inl (.inl hdA), fun tb htb => ?_⟩⟩
    have eA := (e0.trans fA).trans (.new htb (o := .tup ((selL (fun k => decide (k = 0)) ks).map V.int)))
    have sA : SqT K (upd GA tb (.tup ((selL (fun k => decide (k = 0)) ks).map V.int))) tb ((selL (fun k => decide (k = 0)) ks).map V.int) := SqT.new
    have xA : Ext [] H2 (upd GA tb (.tup ((selL (fun k => decide (k = 0)) ks).map V.int))) := fA.trans (.new htb)
    generalize upd GA tb (.tup ((selL (fun k => decide (k = 0)) ks).map V.int)) = HA at eA sA xA
    -- B
    have hkB : SqL K HA Dk (ks.map V.int) := .inl (.inl (eA.own (a := Dk) (by simp) hks (fun _ z => by cases z)))
    refine ⟨_, rfl, Dk, _, rfl, hkB, fun D2 hD2 => ?_⟩
    refine lc_enumL (xs := ks.map V.int) (fun i H' => Ext [] HA H' ∧ H' D2 = some (.lst ((selL (fun k => decide (k = 1)) (ks.take i)).map V.int))) ⟨.new hD2, upd_same⟩ (fun i H' _ e => e.1.lst (by simp) hkB) ?_ ?_
    · rintro i x T' H' hx ⟨e, hd⟩ hT'
      rw [List.getElem?_map] at hx
      cases ek : ks[i]? with
      | none => rw [ek] at hx; cases hx
      | some k =>
        rw [ek] at hx
        cases hx
        have hil := (List.getElem?_eq_some_iff.mp ek).1
        have hlen : (ks.take i).length = i := by rw [List.length_take]; omega
        have e3 : Ext [] H' (upd H' T' (.tup [.int (i : Nat), .int k])) := .new hT'
        have hd3 := e3.own (a := D2) (by simp) hd (fun _ z => by cases z)
        rw [take_snoc ek, selL_snoc, hlen]
        refine ⟨T', _, rfl, SqT.new, rfl, _, _, rfl, _, _, rfl, rfl, rfl, _, rfl, rfl, _, rfl, ?_⟩
        have hzi : decide (V.int k = V.int 1) = true → ((fun k => decide (k = 1))) k = true := fun z => decide_eq_true (V.int.inj (of_decide_eq_true z))
        have hzj : ((fun k => decide (k = 1))) k = true → decide (V.int k = V.int 1) = true := fun z => decide_eq_true (congrArg V.int (of_decide_eq_true z))
        refine ite2 (fun hz => ?_) (fun hz => ?_)
        · have hz : ((fun k => decide (k = 1))) k = true := hzi hz
          refine ⟨_, rfl, _, hd3, ?_, (e.trans e3).at (Fre.of hD2), ?_⟩
          · rw [List.length_map]
            exact small1000 (Nat.le_trans selL_len (by rw [hlen]; omega))
          · rw [if_pos hz, upd_same, List.map_append]
            rfl
        · have hz : ¬ ((fun k => decide (k = 1))) k = true := fun z => hz (hzj z)
          exact ⟨e.trans e3, by rw [if_neg hz, List.append_nil]; exact hd3⟩
    rintro GB ⟨fB, hdB⟩
    rw [List.length_map, List.take_length] at hdB
    refine ⟨D2, _, rfl, .inl ⟨.inl (.inl hdB), fun tg htg => ?_⟩⟩
    have eB := (eA.trans fB).trans (.new htg (o := .tup ((selL (fun k => decide (k = 1)) ks).map V.int)))
    have sB : SqT K (upd GB tg (.tup ((selL (fun k => decide (k = 1)) ks).map V.int))) tg ((selL (fun k => decide (k = 1)) ks).map V.int) := SqT.new
    have xB : Ext [] HA (upd GB tg (.tup ((selL (fun k => decide (k = 1)) ks).map V.int))) := fB.trans (.new htg)
    generalize upd GB tg (.tup ((selL (fun k => decide (k = 1)) ks).map V.int)) = HB at eB sB xB
    have hdis : ∀ x ∈ selL (fun k => decide (k = 1)) ks, x ∉ selL (fun k => decide (k = 0)) ks := fun x h1 h2 => by
      obtain ⟨j, k, a1, a2, a3⟩ := mem_selL.mp h1
      obtain ⟨j', k', b1, b2, b3⟩ := mem_selL.mp h2
      have ej : j = j' := by omega
      subst ej
      rw [a1] at b1
      cases b1
      have c1 := of_decide_eq_true a2
      have c2 := of_decide_eq_true b2
      omega
    have hdm : ∀ x ∈ selL (fun k => decide (k = 1 ∨ k = 2)) ks, x ∉ selL (fun k => decide (k = 0)) ks := fun x h1 h2 => by
      obtain ⟨j, k, a1, a2, a3⟩ := mem_selL.mp h1
      obtain ⟨j', k', b1, b2, b3⟩ := mem_selL.mp h2
      have ej : j = j' := by omega
      subst ej
      rw [a1] at b1
      cases b1
      have c1 := of_decide_eq_true a2
      have c2 := of_decide_eq_true b2
      omega
    have htm : ∀ x ∈ selL (fun k => decide (k = 1)) ks, x ∈ selL (fun k => decide (k = 1 ∨ k = 2)) ks := fun x h1 => by
      obtain ⟨j, k, a1, a2, a3⟩ := mem_selL.mp h1
      exact mem_selL.mpr ⟨j, k, a1, decide_eq_true (.inl (of_decide_eq_true a2)), a3⟩
    have Lsh := selL_lot (fun k => decide (k = 0)) ks
    have Ltg := selL_lot (fun k => decide (k = 1)) ks
    have hsub : ∀ x ∈ selL (fun k => decide (k = 1)) ks, x ∈ outL ks.length (selL (fun k => decide (k = 0)) ks) := fun x h => mem_outL.mpr ⟨Ltg.bd x h, hdis x h⟩
    replace sA := xB.tup sA
    generalize selL (fun k => decide (k = 0)) ks = shut at sA hdis hdm Lsh hsub
    generalize selL (fun k => decide (k = 1)) ks = tgs at sB hdis htm Ltg hsub
    have Lol := outL_lot ks.length shut
    -- due
    refine ⟨_, rfl, _, rfl, _, rfl, t, tb, tg, ks.length, ps, [], shut, tgs, rfl, hD.ext eB, ok, sA, sB, fun r out H3 e3 sD Ldu hm3 => ?_⟩
    have hout : ∀ x, x ∈ out ↔ Lead ps (outL ks.length shut) tgs x := fun x => (hm3 x).trans (lead_iff hsub).symm
    have Shd := lotD_shw Ldu m10'
    replace sA := e3.tup sA
    replace sB := e3.tup sB
    have eC := eB.trans e3
    -- goal_of
    refine ⟨_, rfl, _, rfl, _, rfl, t, tb, tg, ks.length, ps, [], shut, tgs, rfl, hD.ext eC, ok, sA, sB, Lsh, Ltg, meets_false hdis, eC.2 _ t2, eC.2 _ t3, fun r2 out2 H4 e4 hr4 hl4 hm4 => ?_⟩
    have eo : out2 = out := asc_eq hl4.asc Ldu.asc fun x => (hm4 x).trans ((hM _ _ x).trans (hout x).symm)
    subst eo
    replace sA := e4.tup sA
    replace sB := e4.tup sB
    replace sD := e4.tup sD
    replace eC := eC.trans e4
    refine ⟨_, rfl, _, _, .tuple (out2.map .int), rfl, .tup hr4 (dp_ints K _ _), .tup sD (dp_ints K _ _), Shd.mono (by decide) (by decide), _, rfl, iteF ?_⟩
    -- O
    obtain ⟨taO, tcO, h1O, h2O, h3O⟩ := hD.ext eC
    refine ⟨_, rfl, t, _, _, _, rfl, rfl, h1O, atI_nat (j := 0) rfl, (ks.length : Int), rfl, by omega, by omega, fun D3 hD3 => ?_⟩
    rw [show ((ks.length : Int)).toNat = ks.length from rfl]
    refine lc_range (lo := 0) (n := ks.length) (fun i H' => Ext [] H4 H' ∧ H' D3 = some (.lst ((outL i shut).map V.int))) ⟨.new hD3, upd_same⟩ ?_ ?_
    · rintro i H' hi ⟨e, hd⟩
      rw [Int.zero_add]
      refine ⟨rfl, _, rfl, _, rfl, tb, _, rfl, .inr (e.tup sA), rfl, flat_ints _, _, rfl, ?_⟩
      rw [inV_int, outL_succ]
      refine ite2 (fun hz => ?_) (fun hz => ?_)
      · have hz : (!decide ((i : Int) ∈ shut)) = true := hz
        refine ⟨_, rfl, _, hd, ?_, e.at (.of hD3), ?_⟩
        · rw [List.length_map]
          exact small1000 (Nat.le_trans (outL_lot i shut).len (by omega))
        · rw [if_pos hz, upd_same, List.map_append]
          rfl
      · have hz : ¬ (!decide ((i : Int) ∈ shut)) = true := hz
        exact ⟨e, by rw [if_neg hz, List.append_nil]; exact hd⟩
    rintro GO ⟨fO, hdO⟩
    refine ⟨D3, _, rfl, .inl ⟨.inl (.inl hdO), fun to hto => ?_⟩⟩
    have xO := fO.trans (.new hto (o := .tup ((outL ks.length shut).map V.int)))
    have sO : SqT K (upd GO to (.tup ((outL ks.length shut).map V.int))) to ((outL ks.length shut).map V.int) := SqT.new
    generalize upd GO to (.tup ((outL ks.length shut).map V.int)) = HO at xO sO
    replace sA := xO.tup sA
    replace sB := xO.tup sB
    replace sD := xO.tup sD
    replace eC := eC.trans xO
    -- leading
    refine ⟨_, rfl, _, rfl, _, rfl, t, to, tg, ks.length, ps, [], outL ks.length shut, tgs, rfl, hD.ext eC, ok, sO, sB, Lol, Ltg, lies_true hsub, eC.2 _ t1, fun r3 out3 H5 e5 hr5 hl5 hm5 => ?_⟩
    have eo : out3 = out2 := asc_eq hl5.asc Ldu.asc fun x => (hm5 x).trans ((hM _ _ x).trans (hout x).symm)
    subst eo
    replace sA := e5.tup sA
    replace sB := e5.tup sB
    replace sD := e5.tup sD
    replace eC := eC.trans e5
    refine ⟨_, rfl, _, _, .tuple (out3.map .int), rfl, .tup hr5 (dp_ints K _ _), .tup sD (dp_ints K _ _), Shd.mono (by decide) (by decide), _, rfl, iteF ?_⟩
    -- less
    refine (show ∀ R : V → Hp → Prop, (∀ (tl : Addr) (le : List Int) (H6 : Hp), Ext [] H5 H6 → SqT K H6 tl (le.map V.int) → LotOk ks.length le → (∀ x ∈ le, x ∈ shut) → R (.ref tl) H6) →
        tSl (rSlA K) (tVar 3) tNoPart (tPart (tUn (rU fun i => V.int (-i)) (tC (V.int 1)))) [some (.ref d), some (.ref t), some (.ref Dk), some (.ref tb), some (.ref tg), some (.ref r), some (.ref to), none, none, none, none, none] H5 R from fun R fin => ?_) _ ?_
    · refine ⟨_, rfl, 1, rfl, _, rfl, tb, _, rfl, sA, fun _ => fin tb shut _ (.refl _) sA Lsh fun x z => z, fun _ p hp => ?_⟩
      have ec : cutV (shut.map V.int) none (some (-1)) = (((shut.drop (HT.sIx (shut.map V.int).length 0 none)).take (HT.sIx (shut.map V.int).length (shut.map V.int).length (some (-1)) - HT.sIx (shut.map V.int).length 0 none))).map V.int := by
        unfold cutV
        rw [List.map_take, List.map_drop]
      refine fin p _ _ (.new hp) (by rw [ec]; exact SqT.new) ⟨Lsh.asc.sublist ((List.take_sublist _ _).trans (List.drop_sublist _ _)), fun x hx => Lsh.bd x (List.mem_of_mem_drop (List.mem_of_mem_take hx))⟩ fun x hx => List.mem_of_mem_drop (List.mem_of_mem_take hx)
    intro tl le H6 e6 sL Lle hle
    replace sA := e6.tup sA
    replace sB := e6.tup sB
    replace sD := e6.tup sD
    replace eC := eC.trans e6
    refine ⟨_, rfl, r, rfl, ⟨_, sD⟩, fun D4 hD4 => ?_⟩
    refine lc_tup (xs := out3.map V.int) (fun i H' => Ext [] H6 H' ∧ H' D4 = some (.lst [])) ⟨.new hD4, upd_same⟩ (fun i H' _ e => e.1.tup sD) ?_ ?_
    · rintro i x H' hx ⟨e, hd⟩
      rw [List.getElem?_map] at hx
      cases ei : out3[i]? with
      | none => rw [ei] at hx; cases hx
      | some z =>
        rw [ei] at hx
        cases hx
        have hz : z ∈ out3 := List.mem_of_getElem? ei
        have eC' := eC.trans e
        refine ⟨rfl, _, rfl, _, rfl, _, rfl, _, rfl, t, tl, tg, ks.length, ps, [], le, tgs, rfl, hD.ext eC', ok, e.tup sL, e.tup sB, Lle, Ltg, meets_false (fun x h1 h2 => hdis x h1 (hle x h2)), eC'.2 _ t2, eC'.2 _ t3, fun r4 out4 H7 e7 hr7 hl7 hm7 => ?_⟩
        refine ⟨r4, _, rfl, .inr hr7, rfl, flat_ints _, _, rfl, ?_⟩
        have hin : z ∈ out4 := (hm7 z).mpr ((hM _ _ z).mpr (((hout z).mp hz).more (fun _ h => h) (fun x hx => mem_outL.mpr ⟨(mem_outL.mp hx).1, fun h => (mem_outL.mp hx).2 (hle x h)⟩) (fun _ h => h)))
        rw [inV_int, decide_eq_true hin]
        exact iteF ⟨e.trans e7, e7.own (a := D4) (by simp) hd (fun _ z => by cases z)⟩
    rintro H7 ⟨e7, hd7⟩
    refine ⟨by show 0 ≤ sizeLine; decide, fun p hp => ?_⟩
    have e8 := Ext.new (S := []) (o := .lst []) hp
    have hd8 := e8.own (a := D4) (by simp) hd7 (fun _ z => by cases z)
    refine ⟨.list [], .list [], .lst (.inl (.inl hd8)) .nil, .lst SqL.new .nil, rfl, rfl, _, rfl, iteF ?_⟩
    replace e8 := e7.trans e8
    generalize upd H7 p (.lst []) = H8 at e8
    replace sA := e8.tup sA
    replace sB := e8.tup sB
    replace sD := e8.tup sD
    replace eC := eC.trans e8
    clear hd7 hd8 e7
    -- C
    have hkC : SqL K H8 Dk (ks.map V.int) := .inl (.inl (eC.own (a := Dk) (by simp) hks (fun _ z => by cases z)))
    refine ⟨_, rfl, Dk, _, rfl, hkC, fun D5 hD5 => ?_⟩
    refine lc_enumL (xs := ks.map V.int) (fun i H' => Ext [] H8 H' ∧ H' D5 = some (.lst ((selL (fun k => decide (k = 1 ∨ k = 2)) (ks.take i)).map V.int))) ⟨.new hD5, upd_same⟩ (fun i H' _ e => e.1.lst (by simp) hkC) ?_ ?_
    · rintro i x T' H' hx ⟨e, hd⟩ hT'
      rw [List.getElem?_map] at hx
      cases ek : ks[i]? with
      | none => rw [ek] at hx; cases hx
      | some k =>
        rw [ek] at hx
        cases hx
        have hil := (List.getElem?_eq_some_iff.mp ek).1
        have hlen : (ks.take i).length = i := by rw [List.length_take]; omega
        have e3 : Ext [] H' (upd H' T' (.tup [.int (i : Nat), .int k])) := .new hT'
        have hd3 := e3.own (a := D5) (by simp) hd (fun _ z => by cases z)
        rw [take_snoc ek, selL_snoc, hlen]
        refine ⟨T', _, rfl, SqT.new, rfl, _, _, rfl, _, _, rfl, rfl, rfl, _, rfl, by show 2 ≤ sizeLine; decide, fun p hp => ⟨p, _, rfl, .inr SqT.new, rfl, rfl, _, rfl, ?_⟩⟩
        have hzi : inV (.int k) [V.int 1, V.int 2] = true → ((fun k => decide (k = 1 ∨ k = 2)) k) = true := fun z => by
          have := inV_int k [1, 2]
          rw [show [V.int 1, V.int 2] = ([1, 2] : List Int).map V.int from rfl, this] at z
          simpa using z
        have hzj : ((fun k => decide (k = 1 ∨ k = 2)) k) = true → inV (.int k) [V.int 1, V.int 2] = true := fun z => by
          have := inV_int k [1, 2]
          rw [show [V.int 1, V.int 2] = ([1, 2] : List Int).map V.int from rfl, this]
          simpa using z
        replace hd3 := (Ext.new (S := []) (o := .tup [V.int 1, V.int 2]) hp).own (a := D5) (by simp) hd3 (fun _ z => by cases z)
        replace e3 := e3.trans (.new hp (o := .tup [V.int 1, V.int 2]))
        refine ite2 (fun hz => ?_) (fun hz => ?_)
        · have hz : ((fun k => decide (k = 1 ∨ k = 2))) k = true := hzi hz
          refine ⟨_, rfl, _, hd3, ?_, (e.trans e3).at (Fre.of hD5), ?_⟩
          · rw [List.length_map]
            exact small1000 (Nat.le_trans selL_len (by rw [hlen]; omega))
          · rw [if_pos hz, upd_same, List.map_append]
            rfl
        · have hz : ¬ ((fun k => decide (k = 1 ∨ k = 2))) k = true := fun z => hz (hzj z)
          exact ⟨e.trans e3, by rw [if_neg hz, List.append_nil]; exact hd3⟩
    rintro GC ⟨fC, hdC⟩
    rw [List.length_map, List.take_length] at hdC
    refine ⟨D5, _, rfl, .inl ⟨.inl (.inl hdC), fun mo hmo => ?_⟩⟩
    have eC := (eC.trans fC).trans (.new hmo (o := .tup ((selL (fun k => decide (k = 1 ∨ k = 2)) ks).map V.int)))
    have sC : SqT K (upd GC mo (.tup ((selL (fun k => decide (k = 1 ∨ k = 2)) ks).map V.int))) mo ((selL (fun k => decide (k = 1 ∨ k = 2)) ks).map V.int) := SqT.new
    have xC : Ext [] H8 (upd GC mo (.tup ((selL (fun k => decide (k = 1 ∨ k = 2)) ks).map V.int))) := fC.trans (.new hmo)
    generalize upd GC mo (.tup ((selL (fun k => decide (k = 1 ∨ k = 2)) ks).map V.int)) = HC at eC sC xC
    replace sA := xC.tup sA
    replace sB := xC.tup sB
    replace sD := xC.tup sD
    have Lmo := selL_lot (fun k => decide (k = 1 ∨ k = 2)) ks
    generalize selL (fun k => decide (k = 1 ∨ k = 2)) ks = mos at sC hdm htm Lmo
    refine ⟨_, rfl, r, rfl, ⟨_, sD⟩, fun D6 hD6 => ?_⟩
    refine lc_tup (xs := out3.map V.int) (fun i H' => Ext [] HC H' ∧ H' D6 = some (.lst [])) ⟨.new hD6, upd_same⟩ (fun i H' _ e => e.1.tup sD) ?_ ?_
    · rintro i x H' hx ⟨e, hd⟩
      rw [List.getElem?_map] at hx
      cases ei : out3[i]? with
      | none => rw [ei] at hx; cases hx
      | some z =>
        rw [ei] at hx
        cases hx
        have hz : z ∈ out3 := List.mem_of_getElem? ei
        have eC' := eC.trans e
        refine ⟨rfl, _, rfl, _, rfl, _, rfl, _, rfl, t, tb, mo, ks.length, ps, [], shut, mos, rfl, hD.ext eC', ok, e.tup sA, e.tup sC, Lsh, Lmo, meets_false (hdm), eC'.2 _ t2, eC'.2 _ t3, fun r4 out4 H7 e7 hr7 hl7 hm7 => ?_⟩
        refine ⟨r4, _, rfl, .inr hr7, rfl, flat_ints _, _, rfl, ?_⟩
        have hin : z ∈ out4 := (hm7 z).mpr ((hM _ _ z).mpr (((hout z).mp hz).more (fun _ h => h) (fun _ h => h) (htm)))
        rw [inV_int, decide_eq_true hin]
        exact iteF ⟨e.trans e7, e7.own (a := D6) (by simp) hd (fun _ z => by cases z)⟩
    rintro H7 ⟨e7, hd7⟩
    refine ⟨by show 0 ≤ sizeLine; decide, fun p hp => ?_⟩
    have e8 := Ext.new (S := []) (o := .lst []) hp
    have hd8 := e8.own (a := D6) (by simp) hd7 (fun _ z => by cases z)
    refine ⟨.list [], .list [], .lst (.inl (.inl hd8)) .nil, .lst SqL.new .nil, rfl, rfl, _, rfl, iteF ?_⟩
    replace e8 := e7.trans e8
    generalize upd H7 p (.lst []) = H9 at e8
    replace sA := e8.tup sA
    replace sB := e8.tup sB
    replace sD := e8.tup sD
    replace eC := eC.trans e8
    clear hd7 hd8 e7
    -- Q
    obtain ⟨taQ, tcQ, h1Q, h2Q, h3Q⟩ := hD.ext eC
    refine ⟨_, rfl, t, _, _, _, rfl, rfl, h1Q, atI_nat (j := 0) rfl, (ks.length : Int), rfl, by omega, by omega, fun D7 hD7 => ?_⟩
    rw [show ((ks.length : Int)).toNat = ks.length from rfl]
    refine lc_range (lo := 0) (n := ks.length) (fun i H' => Ext [] H9 H' ∧ H' D7 = some (.lst ((outL i tgs).map V.int))) ⟨.new hD7, upd_same⟩ ?_ ?_
    · rintro i H' hi ⟨e, hd⟩
      rw [Int.zero_add]
      refine ⟨rfl, _, rfl, _, rfl, tg, _, rfl, .inr (e.tup sB), rfl, flat_ints _, _, rfl, ?_⟩
      rw [inV_int, outL_succ]
      refine ite2 (fun hz => ?_) (fun hz => ?_)
      · have hz : (!decide ((i : Int) ∈ tgs)) = true := hz
        refine ⟨_, rfl, _, hd, ?_, e.at (.of hD7), ?_⟩
        · rw [List.length_map]
          exact small1000 (Nat.le_trans (outL_lot i tgs).len (by omega))
        · rw [if_pos hz, upd_same, List.map_append]
          rfl
      · have hz : ¬ (!decide ((i : Int) ∈ tgs)) = true := hz
        exact ⟨e, by rw [if_neg hz, List.append_nil]; exact hd⟩
    rintro GQ ⟨fQ, hdQ⟩
    refine ⟨D7, _, rfl, .inl ⟨.inl (.inl hdQ), fun ot hot => ?_⟩⟩
    have xQ := fQ.trans (.new hot (o := .tup ((outL ks.length tgs).map V.int)))
    have sQ : SqT K (upd GQ ot (.tup ((outL ks.length tgs).map V.int))) ot ((outL ks.length tgs).map V.int) := SqT.new
    generalize upd GQ ot (.tup ((outL ks.length tgs).map V.int)) = HQ at xQ sQ
    replace sA := xQ.tup sA
    replace sB := xQ.tup sB
    replace sD := xQ.tup sD
    replace eC := eC.trans xQ
    have Lot := outL_lot ks.length tgs
    refine ⟨_, rfl, _, rfl, _, rfl, t, ot, tg, ks.length, ps, [], outL ks.length tgs, tgs, rfl, hD.ext eC, ok, sQ, sB, Lot, Ltg, meets_false (fun x h1 h2 => (mem_outL.mp h2).2 h1), eC.2 _ t2, eC.2 _ t3, fun r5 out5 H10 e10 hr10 hl10 hm10 => ?_⟩
    have eo5 : out5 = tgs := asc_eq hl10.asc Ltg.asc fun x => by
      rw [hm10, hM]
      constructor
      · intro h
        cases h with
        | base h => exact h
        | step _ h _ =>
          have h2 := mem_outL.mp h
          exact Classical.byContradiction fun h3 => h2.2 (mem_outL.mpr ⟨h2.1, h3⟩)
      · exact .base
    subst eo5
    replace sA := e10.tup sA
    replace sB := e10.tup sB
    replace eC := eC.trans e10
    refine ⟨_, rfl, _, rfl, by show 0 ≤ sizeLine; decide, fun pn hpn => ?_⟩
    have e11 := Ext.new (S := []) (o := .tup []) hpn
    have sN : SqT K (upd H10 pn (.tup [])) pn (([] : List Int).map V.int) := SqT.new
    generalize upd H10 pn (.tup []) = H11 at e11 sN
    replace sA := e11.tup sA
    replace sB := e11.tup sB
    replace hr10 := e11.tup hr10
    replace eC := eC.trans e11
    refine ⟨t, tb, pn, ks.length, ps, [], shut, [], rfl, hD.ext eC, ok, sA, sN, Lsh, .nil _, meets_false (fun x h => by cases h), eC.2 _ t2, eC.2 _ t3, fun r6 out6 H12 e12 hr12 hl12 hm12 => ?_⟩
    have eo6 : out6 = [] := by
      cases out6 with
      | nil => rfl
      | cons x xs =>
        exfalso
        have h := (hM _ _ x).mp ((hm12 x).mp List.mem_cons_self)
        have : ∀ y, ¬ Lead ps (outL ks.length shut) [] y := fun y h => by
          induction h with
          | base h => cases h
          | step _ _ _ ih => exact ih
        exact this x h
    subst eo6
    replace sB := e12.tup sB
    replace hr10 := e12.tup hr10
    replace eC := eC.trans e12
    refine ⟨by show 2 ≤ sizeLine; decide, fun L hL => ?_⟩
    have e13 := Ext.new (S := []) (o := .lst [V.ref r5, .ref r6]) hL
    have sL : SqL K (upd H12 L (.lst [.ref r5, .ref r6])) L [.ref r5, .ref r6] := SqL.new
    generalize upd H12 L (.lst [.ref r5, .ref r6]) = H13 at e13 sL
    refine ⟨_, rfl, by show 0 ≤ sizeLine; decide, fun pm hpm => ?_⟩
    have e14 := Ext.new (S := []) (o := .tup []) hpm
    have sM : SqT K (upd H13 pm (.tup [])) pm (([] : List Int).map V.int) := SqT.new
    generalize upd H13 pm (.tup []) = H14 at e14 sM
    refine ⟨by show 2 ≤ sizeLine; decide, fun M hM => ?_⟩
    have e15 := Ext.new (S := []) (o := .lst [V.ref tg, .ref pm]) hM
    have e1315 := (e13.trans e14).trans e15
    have e1415 := e14.trans e15
    refine ⟨_, _, .list [.tuple (out5.map .int), .tuple (([] : List Int).map .int)], rfl, .lst (e1415.lst (by simp) sL) (.cons (.tup (e1315.tup hr10) (dp_ints K _ _)) (.cons (.tup (e1315.tup hr12) (dp_ints K _ _)) .nil)),
      .lst SqL.new (.cons (.tup (e1315.tup sB) (dp_ints K _ _)) (.cons (.tup (e15.tup sM) (dp_ints K _ _)) .nil)), ?_, ?_⟩
    · refine (Shw.list (m := 2) (n := 30000) (k := 1) (fun d hd => ?_) (Nat.le_refl _)).mono (by decide) (by decide)
      rcases List.mem_cons.mp hd with z | hd
      · rw [z]; exact lotD_shw Ltg m10'
      · rw [List.mem_singleton.mp hd]; exact lotD_shw (LotOk.nil ks.length) m10'
    · replace eC := eC.trans e1315
      exact q _ ((S2.ext eC).mono (by omega)) (E02.trans eC.any)
end
end K3
set_option Elab.async false
set_option linter.all false
set_option maxRecDepth 100000
set_option maxHeartbeats 4000000
namespace K3
open PySem L2 G9 GxR RT
abbrev sLaw : Stmt := top 32
abbrev nmLaw : List Str := ["script", "state", "turn", "told", "got"]
abbrev tps : List (Int × Int) := [(0, 1), (0, 2), (1, 3), (2, 3)]
theorem toldOk : DrOk 4 (prL tps) [] where
  m1 := by decide
  m10 := by decide
  ra := ⟨by decide, fun xs hx => by
    have : xs = [0, 1] ∨ xs = [0, 2] ∨ xs = [1, 3] ∨ xs = [2, 3] := by simpa [prL] using hx
    rcases this with rfl | rfl | rfl | rfl <;> exact ⟨⟨by decide, by decide⟩, by decide⟩⟩
  two := by decide
  few := by decide
  rc := ⟨.nil, fun xs h => by cases h⟩
  c20 := by decide
def spLaw (K : PySem.W.Frag) (Pl Pm Pw : Addr) : Sp := fun vs H Q _ => ∃ (a : Addr) (ns : List Int), vs = [.ref a] ∧ SqL K H a (ns.map V.int) ∧ ns.length ≤ 63 ∧ TabG H Pl ∧ TabG H Pm ∧ TabG H Pw ∧ ∀ H', Q (.bl true) H'
section
variable {P : Program} {w : World} {K : PySem.W.Frag} {mg : Str → Option Value} {base : Heap}
theorem scLaw : FnScope nmLaw ["script"] (defScope sLaw) := ⟨rfl, rfl, rfl, by decide +kernel, rfl, by decide +kernel, by decide +kernel⟩
theorem ok_law {f c fB fR fG fK Pl Pm Pw : Addr} {fd fdB fdR fdG fdK : FuncData} (F : FunC K "law" "law" sLaw f fd c) (T : Blt mg) (CB : CalG P w K mg base 1 "_law_begin" fB fdB ["script"] (spBegin K)) (CR : CalG P w K mg base 13 "_law_right" fR fdR ["state"] (spRight K Pl Pm Pw))
    (CG : CalG P w K mg base 6 "goal_of" fG fdG ["drawing", "shut", "ends"] (spGof K Pm Pw)) (CK : CalG P w K mg base 1 "_law_like" fK fdK ["got", "due"] (spLike K)) (bG : KBinds K fdG ["drawing", "shut", "ends"] ["ends", "shut", "drawing"] rv3 rv3) :
    FnG P w K mg base 14 f fd ["script"] (spLaw K Pl Pm Pw) := by
  refine F.ok scLaw (fun vs H Q E h => ?_) (fun A outer s H vs Q hg hr h => ?_)
  · obtain ⟨_, _, rfl, _⟩ := h
    rfl
  · obtain ⟨a, ns, rfl, hS, h63, hT1, hT2, hT3, q⟩ := h
    refine ⟨_, pss_cons (ps_set (i := 1) scLaw.nd rfl (Or.inl rfl) (pg_call CB.g (gu hg) (hr.mono (by decide)) (by rfl) CB.m CB.k CB.b (pa_cons (pv 0) pa_nil)))
      (pss_cons (ps_for PassesOwn.never rfl (pi_range1 rfl T.range (pa_cons pe_int pa_nil)) (pg_name (i := 2) scLaw.nd rfl (Or.inl rfl))
        (pss_one (ps_if (pt_not (pt_val (pg_call CR.g (gu hg) hr (by rfl) CR.m CR.k CR.b (pa_cons (pv 1) pa_nil)))) (pss_one ps_never) pss_nil)))
      (pss_cons (ps_set (i := 3) scLaw.nd rfl (Or.inl rfl) (pe_tup (pa_cons pe_int (pa_cons (pe_tup (pa_cons (pe_tup (pa_cons pe_int (pa_cons pe_int pa_nil))) (pa_cons (pe_tup (pa_cons pe_int (pa_cons pe_int pa_nil))) (pa_cons (pe_tup (pa_cons pe_int (pa_cons pe_int pa_nil))) (pa_cons (pe_tup (pa_cons pe_int (pa_cons pe_int pa_nil))) pa_nil)))))
          (pa_cons (pe_tup pa_nil) pa_nil)))))
      (pss_cons (ps_set (i := 4) scLaw.nd rfl (Or.inl rfl) (pe_lst (pa_cons (pg_callK CG.g (gu hg) (hr.mono (by decide)) (by rfl) CG.m CG.k bG (pk_cons (pe_tup (pa_cons pe_int pa_nil)) (pk_cons (pe_tup (pa_cons pe_int pa_nil)) (pk_cons (pv 3) pk_nil))))
          (pa_cons (pg_call CG.g (gu hg) (hr.mono (by decide)) (by rfl) CG.m CG.k CG.b (pa_cons (pv 3) (pa_cons (pe_tup (pa_cons pe_int (pa_cons pe_int pa_nil))) (pa_cons (pe_tup (pa_cons pe_int pa_nil)) pa_nil))))
          (pa_cons (pg_call CG.g (gu hg) (hr.mono (by decide)) (by rfl) CG.m CG.k CG.b (pa_cons (pv 3) (pa_cons (pe_tup pa_nil) (pa_cons (pe_tup (pa_cons pe_int pa_nil)) pa_nil)))) pa_nil)))))
      (pss_one (ps_ret (pg_call CK.g (gu hg) (hr.mono (by decide)) (by rfl) CK.m CK.k CK.b (pa_cons (pv 4) (pa_cons
          (pe_lst (pa_cons (pe_tup (pa_cons pe_int (pa_cons pe_int (pa_cons pe_int pa_nil)))) (pa_cons (pe_tup (pa_cons pe_int pa_nil)) (pa_cons (pe_tup (pa_cons pe_int pa_nil)) pa_nil)))) pa_nil)))))))), ?_⟩
    refine ⟨_, rfl, a, ns, rfl, hS, h63, fun d c l H1 S1 E1 => ?_⟩
    refine ⟨(6 : Nat), rfl, by decide, by decide, ?_⟩
    have u1 := E1.2 _ hT1
    have u2 := E1.2 _ hT2
    have u3 := E1.2 _ hT3
    refine for_range (lo := 0) (n := 6) (fun i σ H' => ∃ (v2 : Option V), σ = [some (.ref a), some (.ref d), v2, none, none] ∧ StAt K H' d c l (400 * i) ∧ Ext [d, l] H1 H') ⟨none, rfl, S1, .refl _⟩ ?_ ?_
    · rintro i σ H' hi ⟨v2, rfl, S, E⟩
      refine ⟨_, rfl, d, c, l, _, rfl, S, by omega, E.2 _ u1, E.2 _ u2, E.2 _ u3, fun H2 S2 E2 => ⟨_, rfl, iteF ⟨_, rfl, S2.mono (by omega), E.trans E2⟩⟩⟩
    · rintro σ H' ⟨v2, rfl, S, E⟩
      have t1 := E.2 _ u1
      have t2 := E.2 _ u2
      have t3 := E.2 _ u3
      clear E S E1 S1 hT1 hT2 hT3 hS u1 u2 u3
      refine ⟨by show 2 ≤ sizeLine; decide, fun p0 hp0 => ?_⟩
      have eG1 := Ext.new (S := []) (o := .tup [V.int 0, .int 1]) hp0
      have s0 : SqT K (upd H' p0 (.tup [V.int 0, .int 1])) p0 (([0, 1] : List Int).map V.int) := SqT.new
      generalize upd H' p0 (.tup [V.int 0, .int 1]) = G1 at eG1 s0
      replace t2 := eG1.2 _ t2
      replace t3 := eG1.2 _ t3
      refine ⟨by show 2 ≤ sizeLine; decide, fun p1 hp1 => ?_⟩
      have eG2 := Ext.new (S := []) (o := .tup [V.int 0, .int 2]) hp1
      have s1 : SqT K (upd G1 p1 (.tup [V.int 0, .int 2])) p1 (([0, 2] : List Int).map V.int) := SqT.new
      generalize upd G1 p1 (.tup [V.int 0, .int 2]) = G2 at eG2 s1
      replace t2 := eG2.2 _ t2
      replace t3 := eG2.2 _ t3
      replace s0 := eG2.tup s0
      refine ⟨by show 2 ≤ sizeLine; decide, fun p2 hp2 => ?_⟩
      have eG3 := Ext.new (S := []) (o := .tup [V.int 1, .int 3]) hp2
      have s2 : SqT K (upd G2 p2 (.tup [V.int 1, .int 3])) p2 (([1, 3] : List Int).map V.int) := SqT.new
      generalize upd G2 p2 (.tup [V.int 1, .int 3]) = G3 at eG3 s2
      replace t2 := eG3.2 _ t2
      replace t3 := eG3.2 _ t3
      replace s0 := eG3.tup s0
      replace s1 := eG3.tup s1
      refine ⟨by show 2 ≤ sizeLine; decide, fun p3 hp3 => ?_⟩
      have eG4 := Ext.new (S := []) (o := .tup [V.int 2, .int 3]) hp3
      have s3 : SqT K (upd G3 p3 (.tup [V.int 2, .int 3])) p3 (([2, 3] : List Int).map V.int) := SqT.new
      generalize upd G3 p3 (.tup [V.int 2, .int 3]) = G4 at eG4 s3
      replace t2 := eG4.2 _ t2
      replace t3 := eG4.2 _ t3
      replace s0 := eG4.tup s0
      replace s1 := eG4.tup s1
      replace s2 := eG4.tup s2
      refine ⟨by show 4 ≤ sizeLine; decide, fun pa hpa => ?_⟩
      have eG5 := Ext.new (S := []) (o := .tup [V.ref p0, .ref p1, .ref p2, .ref p3]) hpa
      have sa : TupsAt K (upd G4 pa (.tup [V.ref p0, .ref p1, .ref p2, .ref p3])) pa (prL tps) := ⟨[p0, p1, p2, p3], SqT.new, .cons (eG5.tup s0) (.cons (eG5.tup s1) (.cons (eG5.tup s2) (.cons (eG5.tup s3) .nil)))⟩
      generalize upd G4 pa (.tup [V.ref p0, .ref p1, .ref p2, .ref p3]) = G5 at eG5 sa
      replace t2 := eG5.2 _ t2
      replace t3 := eG5.2 _ t3
      replace s0 := eG5.tup s0
      replace s1 := eG5.tup s1
      replace s2 := eG5.tup s2
      replace s3 := eG5.tup s3
      clear s0 s1 s2 s3
      refine ⟨by show 0 ≤ sizeLine; decide, fun pc hpc => ?_⟩
      have eG6 := Ext.new (S := []) (o := .tup []) hpc
      have sc : TupsAt K (upd G5 pc (.tup [])) pc [] := ⟨[], SqT.new, .nil⟩
      generalize upd G5 pc (.tup []) = G6 at eG6 sc
      replace t2 := eG6.2 _ t2
      replace t3 := eG6.2 _ t3
      replace sa := sa.ext eG6
      refine ⟨by show 3 ≤ sizeLine; decide, fun t ht => ?_⟩
      have eG7 := Ext.new (S := []) (o := .tup [V.int 4, .ref pa, .ref pc]) ht
      have hD : DrAt K (upd G6 t (.tup [V.int 4, .ref pa, .ref pc])) t 4 (prL tps) [] := ⟨pa, pc, SqT.new, sa.ext eG7, sc.ext eG7⟩
      generalize upd G6 t (.tup [V.int 4, .ref pa, .ref pc]) = G7 at eG7 hD
      replace t2 := eG7.2 _ t2
      replace t3 := eG7.2 _ t3
      replace sa := sa.ext eG7
      replace sc := sc.ext eG7
      clear sa sc
      refine ⟨by show 1 ≤ sizeLine; decide, fun b1 hb1 => ?_⟩
      have eG8 := Ext.new (S := []) (o := .tup [V.int 3]) hb1
      have zb1 : SqT K (upd G7 b1 (.tup [V.int 3])) b1 (([3] : List Int).map V.int) := SqT.new
      generalize upd G7 b1 (.tup [V.int 3]) = G8 at eG8 zb1
      replace t2 := eG8.2 _ t2
      replace t3 := eG8.2 _ t3
      replace hD := hD.ext eG8
      refine ⟨by show 1 ≤ sizeLine; decide, fun b2 hb2 => ?_⟩
      have eG9 := Ext.new (S := []) (o := .tup [V.int 1]) hb2
      have zb2 : SqT K (upd G8 b2 (.tup [V.int 1])) b2 (([1] : List Int).map V.int) := SqT.new
      generalize upd G8 b2 (.tup [V.int 1]) = G9 at eG9 zb2
      replace t2 := eG9.2 _ t2
      replace t3 := eG9.2 _ t3
      replace hD := hD.ext eG9
      replace zb1 := eG9.tup zb1
      refine ⟨_, rfl, ?_⟩
      refine ⟨t, b2, b1, 4, tps, [], [1], [3], rfl, hD, toldOk, zb2, zb1, ⟨by decide, by decide⟩, ⟨by decide, by decide⟩, by decide, t2, t3, fun r1 out1 R1 eR1 q1 hl1 hm1 => ?_⟩
      have eo1 : out1 = [0, 2, 3] := asc_eq hl1.asc (by decide) fun x => by rw [hm1, show leadL (outL 4 [1]) [3] tps = [0, 2, 3] by decide]
      subst eo1
      replace t2 := eR1.2 _ t2
      replace t3 := eR1.2 _ t3
      replace hD := hD.ext eR1
      replace zb1 := eR1.tup zb1
      replace zb2 := eR1.tup zb2
      refine ⟨_, rfl, ?_⟩
      refine ⟨by show 2 ≤ sizeLine; decide, fun b3 hb3 => ?_⟩
      have eG10 := Ext.new (S := []) (o := .tup [V.int 1, .int 2]) hb3
      have zb3 : SqT K (upd R1 b3 (.tup [V.int 1, .int 2])) b3 (([1, 2] : List Int).map V.int) := SqT.new
      generalize upd R1 b3 (.tup [V.int 1, .int 2]) = G10 at eG10 zb3
      replace t2 := eG10.2 _ t2
      replace t3 := eG10.2 _ t3
      replace hD := hD.ext eG10
      replace zb1 := eG10.tup zb1
      replace zb2 := eG10.tup zb2
      replace q1 := eG10.tup q1
      refine ⟨by show 1 ≤ sizeLine; decide, fun b4 hb4 => ?_⟩
      have eG11 := Ext.new (S := []) (o := .tup [V.int 3]) hb4
      have zb4 : SqT K (upd G10 b4 (.tup [V.int 3])) b4 (([3] : List Int).map V.int) := SqT.new
      generalize upd G10 b4 (.tup [V.int 3]) = G11 at eG11 zb4
      replace t2 := eG11.2 _ t2
      replace t3 := eG11.2 _ t3
      replace hD := hD.ext eG11
      replace zb1 := eG11.tup zb1
      replace zb2 := eG11.tup zb2
      replace q1 := eG11.tup q1
      replace zb3 := eG11.tup zb3
      refine ⟨t, b3, b4, 4, tps, [], [1, 2], [3], rfl, hD, toldOk, zb3, zb4, ⟨by decide, by decide⟩, ⟨by decide, by decide⟩, by decide, t2, t3, fun r2 out2 R2 eR2 q2 hl2 hm2 => ?_⟩
      have eo2 : out2 = [3] := asc_eq hl2.asc (by decide) fun x => by rw [hm2, show leadL (outL 4 [1, 2]) [3] tps = [3] by decide]
      subst eo2
      replace t2 := eR2.2 _ t2
      replace t3 := eR2.2 _ t3
      replace hD := hD.ext eR2
      replace zb1 := eR2.tup zb1
      replace zb2 := eR2.tup zb2
      replace q1 := eR2.tup q1
      replace zb3 := eR2.tup zb3
      replace zb4 := eR2.tup zb4
      refine ⟨_, rfl, ?_⟩
      refine ⟨by show 0 ≤ sizeLine; decide, fun b5 hb5 => ?_⟩
      have eG12 := Ext.new (S := []) (o := .tup []) hb5
      have zb5 : SqT K (upd R2 b5 (.tup [])) b5 (([] : List Int).map V.int) := SqT.new
      generalize upd R2 b5 (.tup []) = G12 at eG12 zb5
      replace t2 := eG12.2 _ t2
      replace t3 := eG12.2 _ t3
      replace hD := hD.ext eG12
      replace zb1 := eG12.tup zb1
      replace zb2 := eG12.tup zb2
      replace q1 := eG12.tup q1
      replace zb3 := eG12.tup zb3
      replace zb4 := eG12.tup zb4
      replace q2 := eG12.tup q2
      refine ⟨by show 1 ≤ sizeLine; decide, fun b6 hb6 => ?_⟩
      have eG13 := Ext.new (S := []) (o := .tup [V.int 0]) hb6
      have zb6 : SqT K (upd G12 b6 (.tup [V.int 0])) b6 (([0] : List Int).map V.int) := SqT.new
      generalize upd G12 b6 (.tup [V.int 0]) = G13 at eG13 zb6
      replace t2 := eG13.2 _ t2
      replace t3 := eG13.2 _ t3
      replace hD := hD.ext eG13
      replace zb1 := eG13.tup zb1
      replace zb2 := eG13.tup zb2
      replace q1 := eG13.tup q1
      replace zb3 := eG13.tup zb3
      replace zb4 := eG13.tup zb4
      replace q2 := eG13.tup q2
      replace zb5 := eG13.tup zb5
      refine ⟨t, b5, b6, 4, tps, [], [], [0], rfl, hD, toldOk, zb5, zb6, ⟨by decide, by decide⟩, ⟨by decide, by decide⟩, by decide, t2, t3, fun r3 out3 R3 eR3 q3 hl3 hm3 => ?_⟩
      have eo3 : out3 = [0] := asc_eq hl3.asc (by decide) fun x => by rw [hm3, show leadL (outL 4 []) [0] tps = [0] by decide]
      subst eo3
      replace t2 := eR3.2 _ t2
      replace t3 := eR3.2 _ t3
      replace hD := hD.ext eR3
      replace zb1 := eR3.tup zb1
      replace zb2 := eR3.tup zb2
      replace q1 := eR3.tup q1
      replace zb3 := eR3.tup zb3
      replace zb4 := eR3.tup zb4
      replace q2 := eR3.tup q2
      replace zb5 := eR3.tup zb5
      replace zb6 := eR3.tup zb6
      refine ⟨by show 3 ≤ sizeLine; decide, fun L hL => ?_⟩
      have eL := Ext.new (S := []) (o := .lst [V.ref r1, .ref r2, .ref r3]) hL
      have sL : SqL K (upd R3 L (.lst [.ref r1, .ref r2, .ref r3])) L [.ref r1, .ref r2, .ref r3] := SqL.new
      generalize upd R3 L (.lst [.ref r1, .ref r2, .ref r3]) = HL at eL sL
      replace q1 := eL.tup q1
      replace q2 := eL.tup q2
      replace q3 := eL.tup q3
      refine ⟨_, rfl, ?_⟩
      refine ⟨by show 3 ≤ sizeLine; decide, fun c1 hc1 => ?_⟩
      have eG14 := Ext.new (S := []) (o := .tup [V.int 0, .int 2, .int 3]) hc1
      have zc1 : SqT K (upd HL c1 (.tup [V.int 0, .int 2, .int 3])) c1 (([0, 2, 3] : List Int).map V.int) := SqT.new
      generalize upd HL c1 (.tup [V.int 0, .int 2, .int 3]) = G14 at eG14 zc1
      replace q1 := eG14.tup q1
      replace q2 := eG14.tup q2
      replace q3 := eG14.tup q3
      replace sL := eG14.lst (by simp) sL
      refine ⟨by show 1 ≤ sizeLine; decide, fun c2 hc2 => ?_⟩
      have eG15 := Ext.new (S := []) (o := .tup [V.int 3]) hc2
      have zc2 : SqT K (upd G14 c2 (.tup [V.int 3])) c2 (([3] : List Int).map V.int) := SqT.new
      generalize upd G14 c2 (.tup [V.int 3]) = G15 at eG15 zc2
      replace q1 := eG15.tup q1
      replace q2 := eG15.tup q2
      replace q3 := eG15.tup q3
      replace zc1 := eG15.tup zc1
      replace sL := eG15.lst (by simp) sL
      refine ⟨by show 1 ≤ sizeLine; decide, fun c3 hc3 => ?_⟩
      have eG16 := Ext.new (S := []) (o := .tup [V.int 0]) hc3
      have zc3 : SqT K (upd G15 c3 (.tup [V.int 0])) c3 (([0] : List Int).map V.int) := SqT.new
      generalize upd G15 c3 (.tup [V.int 0]) = G16 at eG16 zc3
      replace q1 := eG16.tup q1
      replace q2 := eG16.tup q2
      replace q3 := eG16.tup q3
      replace zc1 := eG16.tup zc1
      replace zc2 := eG16.tup zc2
      replace sL := eG16.lst (by simp) sL
      refine ⟨by show 3 ≤ sizeLine; decide, fun M hM => ?_⟩
      have eM := Ext.new (S := []) (o := .lst [V.ref c1, .ref c2, .ref c3]) hM
      refine ⟨_, _, .list [.tuple (([0, 2, 3] : List Int).map .int), .tuple (([3] : List Int).map .int), .tuple (([0] : List Int).map .int)], rfl,
        .lst (eM.lst (by simp) sL) (.cons (.tup (eM.tup q1) (dp_ints K _ _)) (.cons (.tup (eM.tup q2) (dp_ints K _ _)) (.cons (.tup (eM.tup q3) (dp_ints K _ _)) .nil))),
        .lst SqL.new (.cons (.tup (eM.tup zc1) (dp_ints K _ _)) (.cons (.tup (eM.tup zc2) (dp_ints K _ _)) (.cons (.tup (eM.tup zc3) (dp_ints K _ _)) .nil))), ?_, q _⟩
      have z1 : ∀ xs : List Int, LotOk (10 : Nat) xs → Shw (.tuple (xs.map .int)) 30000 1 := fun xs h => lotD_shw h (Nat.le_refl _)
      refine (Shw.list (m := 3) (n := 30000) (k := 1) (fun d hd => ?_) (Nat.le_refl _)).mono (by decide) (by decide)
      simp only [List.mem_cons, List.not_mem_nil, or_false] at hd
      rcases hd with z | z | z
      · rw [z]; exact z1 _ ⟨by decide, by decide⟩
      · rw [z]; exact z1 _ ⟨by decide, by decide⟩
      · rw [z]; exact z1 _ ⟨by decide, by decide⟩
end
end K3
set_option Elab.async false
set_option linter.all false
set_option maxRecDepth 100000
set_option maxHeartbeats 8000000
namespace K3
open PySem L2 G9 GxR RT PyProof.Rows PySem.W
/-- a def of the text stands behind the top -/
def DefAt (K : PySem.W.Frag) (x : Str) (st : Stmt) : Prop := ∃ (f : Addr) (fd : FuncData) (c : Addr), PySem.W.nsIn K mainGlobals x = some (some (.ref f)) ∧ FunC K x x st f fd c
theorem def_mk {K : PySem.W.Frag} {x : Str} {st : Stmt} {f c : Addr} {oc : Value} {od an : Option Addr} {osl : Array (Option Value)} {kV doc pm ct : Value} (a : PySem.W.nsIn K mainGlobals x = some (some (.ref f)))
    (l : K.lookup f = some ⟨oc, od, .func (PySem.W.fnOf x x (defArgs st) (defBody st) (defScope st) .none kV doc pm an (.ref c) ct), osl⟩) (cd : PySem.W.codeIn K (.ref c) x = true) (k : PySem.W.keepIn K (.ref f) = true) : DefAt K x st :=
  ⟨f, _, c, a, ⟨oc, od, kV, doc, pm, an, ct, osl, rfl, l, cd⟩, k⟩
/-- a def with blocks of its own: its table -/
def TabK (K : PySem.W.Frag) (x : Str) : Prop := ∃ c P, tabIn K x = some (c, P) ∧ K.lookup P = none
def tabB (K : PySem.W.Frag) (x : Str) : Bool := match tabIn K x with
  | some (_, P) => (K.lookup P).isNone
  | none => false
theorem tab_mk {K : PySem.W.Frag} {x : Str} (h : tabB K x = true) : TabK K x := by
  unfold tabB at h
  split at h
  · rename_i c P e
    exact ⟨c, P, e, Option.isNone_iff_eq_none.mp h⟩
  · cases h
theorem def_tab {K : PySem.W.Frag} {x : Str} {st : Stmt} {f c c' P : Addr} {fd : FuncData} {h : Heap} {mg : Str → Option Value} (X : K.In h) (G : h.Ns mainGlobals mg) (F : FunC K x x st f fd c) (hm : mg x = some (.ref f)) (ht : tabIn K x = some (c', P)) : c = c' := by
  obtain ⟨oc, od, kV, doc, pm, an, ct, osl, rfl, lk, hcd⟩ := F.ex
  have := law_code X G ht hm (X _ _ lk) rfl
  have e : Value.ref c = .ref c' := this
  cases e
  rfl
def NoneAt (K : PySem.W.Frag) (x : Str) : Prop := PySem.W.nsIn K mainGlobals x = some none
theorem law_G {l : PySem.W.OpenLaw} {q : Program} {loose : List Str} {w : World} {mean : ExcName → Option Value} {K : PySem.W.Frag} {mg mb : Str → Option Value} {fa : Addr} {h : Heap} (X : K.In h) (T : Top q loose mean mg mb h) (hfa : mg "law" = some (.ref fa))
    (d5 : DefAt K "is_tuple_of" (top 5)) (d6 : DefAt K "is_integer" (top 6)) (d7 : DefAt K "is_lot" (top 7)) (d8 : DefAt K "lies_in" (top 8)) (d9 : DefAt K "meets" (top 9)) (d10 : DefAt K "all_without" (top 10)) (d11 : DefAt K "leading_in" (top 11)) (d12 : DefAt K "goal_in" (top 12)) (d16 : DefAt K "need_drawing" (top 16)) (d17 : DefAt K "_need_arrows" (top 17)) (d18 : DefAt K "_need_causes" (top 18)) (d19 : DefAt K "need_lot" (top 19)) (d20 : DefAt K "need_lot_within" (top 20)) (d21 : DefAt K "leading" (top 21)) (d22 : DefAt K "goal_of" (top 22)) (d24 : DefAt K "_law_mixed" (top 24)) (d25 : DefAt K "_law_begin" (top 25)) (d26 : DefAt K "_law_draw" (top 26)) (d27 : DefAt K "_law_drawing" (top 27)) (d28 : DefAt K "_law_comes" (top 28)) (d29 : DefAt K "_law_due" (top 29)) (d30 : DefAt K "_law_like" (top 30)) (d31 : DefAt K "_law_right" (top 31)) (d32 : DefAt K "law" (top 32)) (t8 : TabK K "lies_in") (t9 : TabK K "meets") (t10 : TabK K "all_without") (r8 : ∃ d, (recsOf q).find? (fun e => e.name == ("lies_in" : Str)) = some d) (r9 : ∃ d, (recsOf q).find? (fun e => e.name == ("meets" : Str)) = some d) (r10 : ∃ d, (recsOf q).find? (fun e => e.name == ("all_without" : Str)) = some d) {tk0 : Tok} (n0 : PySem.W.nsIn K mainGlobals "_MOST_THINGS" = some (some (.int 10 tk0))) {tk1 : Tok} (n1 : PySem.W.nsIn K mainGlobals "MOST_CAUSES" = some (some (.int 20 tk1))) (z0 : NoneAt K "int") (z1 : NoneAt K "list") (z2 : NoneAt K "len") (z3 : NoneAt K "range") (z4 : NoneAt K "tuple") (z5 : NoneAt K "sorted") (z6 : NoneAt K "set") (z7 : NoneAt K "repr") (z8 : NoneAt K "type") (z9 : NoneAt K "any") (z10 : NoneAt K "enumerate") (z11 : NoneAt K "all") (z12 : NoneAt K "reversed") :
    LawG l w K 14 63 "script" mg fa h := by
  have G := T.g
  have y0 := PySem.W.mg_none_of X G z0
  have y1 := PySem.W.mg_none_of X G z1
  have y2 := PySem.W.mg_none_of X G z2
  have y3 := PySem.W.mg_none_of X G z3
  have y4 := PySem.W.mg_none_of X G z4
  have y5 := PySem.W.mg_none_of X G z5
  have y6 := PySem.W.mg_none_of X G z6
  have y7 := PySem.W.mg_none_of X G z7
  have y8 := PySem.W.mg_none_of X G z8
  have y9 := PySem.W.mg_none_of X G z9
  have y10 := PySem.W.mg_none_of X G z10
  have y11 := PySem.W.mg_none_of X G z11
  have y12 := PySem.W.mg_none_of X G z12
  have B : Blt mg := ⟨y0, y1, y2, y3, y4, y5, y6, y7, y8, y9, y10⟩
  have B2 : Blt2 mg := ⟨y11, y12⟩
  have N : Nums mg := ⟨⟨_, PySem.W.mg_of X G n0⟩, ⟨_, PySem.W.mg_of X G n1⟩⟩
  obtain ⟨f5, fd5, c5, a5, F5⟩ := d5
  have m5 := PySem.W.mg_of X G a5
  have b5 : Binds K fd5 ["value", "many"] [] := F5.fn.binds fun _ _ _ _ _ _ us hl => match us, hl with | [_, _], _ => rfl
  obtain ⟨f6, fd6, c6, a6, F6⟩ := d6
  have m6 := PySem.W.mg_of X G a6
  have b6 : Binds K fd6 ["value", "least", "most"] [] := F6.fn.binds fun _ _ _ _ _ _ us hl => match us, hl with | [_, _, _], _ => rfl
  obtain ⟨f7, fd7, c7, a7, F7⟩ := d7
  have m7 := PySem.W.mg_of X G a7
  have b7 : Binds K fd7 ["count", "value"] [] := F7.fn.binds fun _ _ _ _ _ _ us hl => match us, hl with | [_, _], _ => rfl
  obtain ⟨f8, fd8, c8, a8, F8⟩ := d8
  have m8 := PySem.W.mg_of X G a8
  have b8 : Binds K fd8 ["lot", "other"] [] := F8.fn.binds fun _ _ _ _ _ _ us hl => match us, hl with | [_, _], _ => rfl
  obtain ⟨f9, fd9, c9, a9, F9⟩ := d9
  have m9 := PySem.W.mg_of X G a9
  have b9 : Binds K fd9 ["lot", "other"] [] := F9.fn.binds fun _ _ _ _ _ _ us hl => match us, hl with | [_, _], _ => rfl
  obtain ⟨f10, fd10, c10, a10, F10⟩ := d10
  have m10 := PySem.W.mg_of X G a10
  have b10 : Binds K fd10 ["count", "lot"] [] := F10.fn.binds fun _ _ _ _ _ _ us hl => match us, hl with | [_, _], _ => rfl
  obtain ⟨f11, fd11, c11, a11, F11⟩ := d11
  have m11 := PySem.W.mg_of X G a11
  have b11 : Binds K fd11 ["arrows", "lot", "goal"] [] := F11.fn.binds fun _ _ _ _ _ _ us hl => match us, hl with | [_, _, _], _ => rfl
  obtain ⟨f12, fd12, c12, a12, F12⟩ := d12
  have m12 := PySem.W.mg_of X G a12
  have b12 : Binds K fd12 ["drawing", "closed", "ends"] [] := F12.fn.binds fun _ _ _ _ _ _ us hl => match us, hl with | [_, _, _], _ => rfl
  obtain ⟨f16, fd16, c16, a16, F16⟩ := d16
  have m16 := PySem.W.mg_of X G a16
  have b16 : Binds K fd16 ["drawing"] [] := F16.fn.binds fun _ _ _ _ _ _ us hl => match us, hl with | [_], _ => rfl
  obtain ⟨f17, fd17, c17, a17, F17⟩ := d17
  have m17 := PySem.W.mg_of X G a17
  have b17 : Binds K fd17 ["count", "arrows"] [] := F17.fn.binds fun _ _ _ _ _ _ us hl => match us, hl with | [_, _], _ => rfl
  obtain ⟨f18, fd18, c18, a18, F18⟩ := d18
  have m18 := PySem.W.mg_of X G a18
  have b18 : Binds K fd18 ["count", "causes"] [] := F18.fn.binds fun _ _ _ _ _ _ us hl => match us, hl with | [_, _], _ => rfl
  obtain ⟨f19, fd19, c19, a19, F19⟩ := d19
  have m19 := PySem.W.mg_of X G a19
  have b19 : Binds K fd19 ["drawing", "value"] [] := F19.fn.binds fun _ _ _ _ _ _ us hl => match us, hl with | [_, _], _ => rfl
  obtain ⟨f20, fd20, c20, a20, F20⟩ := d20
  have m20 := PySem.W.mg_of X G a20
  have b20 : Binds K fd20 ["drawing", "lot", "value"] [] := F20.fn.binds fun _ _ _ _ _ _ us hl => match us, hl with | [_, _, _], _ => rfl
  obtain ⟨f21, fd21, c21, a21, F21⟩ := d21
  have m21 := PySem.W.mg_of X G a21
  have b21 : Binds K fd21 ["drawing", "lot", "goal"] [] := F21.fn.binds fun _ _ _ _ _ _ us hl => match us, hl with | [_, _, _], _ => rfl
  obtain ⟨f22, fd22, c22, a22, F22⟩ := d22
  have m22 := PySem.W.mg_of X G a22
  have b22 : Binds K fd22 ["drawing", "shut", "ends"] [] := F22.fn.binds fun _ _ _ _ _ _ us hl => match us, hl with | [_, _, _], _ => rfl
  obtain ⟨f24, fd24, c24, a24, F24⟩ := d24
  have m24 := PySem.W.mg_of X G a24
  have b24 : Binds K fd24 ["cell", "k"] [] := F24.fn.binds fun _ _ _ _ _ _ us hl => match us, hl with | [_, _], _ => rfl
  obtain ⟨f25, fd25, c25, a25, F25⟩ := d25
  have m25 := PySem.W.mg_of X G a25
  have b25 : Binds K fd25 ["script"] [] := F25.fn.binds fun _ _ _ _ _ _ us hl => match us, hl with | [_], _ => rfl
  obtain ⟨f26, fd26, c26, a26, F26⟩ := d26
  have m26 := PySem.W.mg_of X G a26
  have b26 : Binds K fd26 ["state", "limit"] [] := F26.fn.binds fun _ _ _ _ _ _ us hl => match us, hl with | [_, _], _ => rfl
  obtain ⟨f27, fd27, c27, a27, F27⟩ := d27
  have m27 := PySem.W.mg_of X G a27
  have b27 : Binds K fd27 ["state", "low", "high"] [] := F27.fn.binds fun _ _ _ _ _ _ us hl => match us, hl with | [_, _, _], _ => rfl
  obtain ⟨f28, fd28, c28, a28, F28⟩ := d28
  have m28 := PySem.W.mg_of X G a28
  have b28 : Binds K fd28 ["arrows_so", "lot_so", "spot", "targets"] [] := F28.fn.binds fun _ _ _ _ _ _ us hl => match us, hl with | [_, _, _, _], _ => rfl
  obtain ⟨f29, fd29, c29, a29, F29⟩ := d29
  have m29 := PySem.W.mg_of X G a29
  have b29 : Binds K fd29 ["draw_so", "closed", "targets"] [] := F29.fn.binds fun _ _ _ _ _ _ us hl => match us, hl with | [_, _, _], _ => rfl
  obtain ⟨f30, fd30, c30, a30, F30⟩ := d30
  have m30 := PySem.W.mg_of X G a30
  have b30 : Binds K fd30 ["got", "due"] [] := F30.fn.binds fun _ _ _ _ _ _ us hl => match us, hl with | [_, _], _ => rfl
  obtain ⟨f31, fd31, c31, a31, F31⟩ := d31
  have m31 := PySem.W.mg_of X G a31
  have b31 : Binds K fd31 ["state"] [] := F31.fn.binds fun _ _ _ _ _ _ us hl => match us, hl with | [_], _ => rfl
  obtain ⟨f32, fd32, c32, a32, F32⟩ := d32
  have m32 := PySem.W.mg_of X G a32
  obtain ⟨e8, P8, h8, l8⟩ := t8
  obtain ⟨q8, r8⟩ := r8
  cases def_tab X G F8 m8 h8
  have C8 := tab_of T X r8 h8
  obtain ⟨e9, P9, h9, l9⟩ := t9
  obtain ⟨q9, r9⟩ := r9
  cases def_tab X G F9 m9 h9
  have C9 := tab_of T X r9 h9
  obtain ⟨e10, P10, h10, l10⟩ := t10
  obtain ⟨q10, r10⟩ := r10
  cases def_tab X G F10 m10 h10
  have C10 := tab_of T X r10 h10
  cases hfa.symm.trans m32
  refine ⟨fd32, [(c8, P8), (c9, P9), (c10, P10)], spLaw K P8 P9 P10, ?_, ?_, ?_, ?_, ?_, fun base KB NB TB => ?_⟩
  · intro p hp; simp only [List.mem_cons, List.not_mem_nil, or_false] at hp; rcases hp with rfl | rfl | rfl <;> first | exact C8.2 | exact C9.2 | exact C10.2
  · intro p hp; simp only [List.mem_cons, List.not_mem_nil, or_false] at hp; rcases hp with rfl | rfl | rfl <;> first | exact l8 | exact l9 | exact l10
  · intro p hp; simp only [List.mem_cons, List.not_mem_nil, or_false] at hp; rcases hp with rfl | rfl | rfl <;> first | exact C8.1 | exact C9.1 | exact C10.1
  · intro s u; obtain ⟨oc, od, kV, doc, pm, an, ct, osl, rfl, lk, hcd⟩ := F32.ex; exact .of_eq rfl
  · intro H a ns hn _ hT hS; exact ⟨a, ns, rfl, hS, hn, hT (c8, P8) (by simp), hT (c9, P9) (by simp), hT (c10, P10) (by simp), fun _ => rfl⟩
  have B8 : TabB base mg c8 P8 := TB (c8, P8) (by simp)
  have B9 : TabB base mg c9 P9 := TB (c9, P9) (by simp)
  have B10 : TabB base mg c10 P10 := TB (c10, P10) (by simp)
  have K5 : CalG l.prog w K mg base 1 "is_tuple_of" f5 fd5 _ (spTupOf K) := ⟨ok_tupOf F5 B, F5.kp, b5, m5⟩
  have K6 : CalG l.prog w K mg base 1 "is_integer" f6 fd6 _ spInt := ⟨ok_int F6 B, F6.kp, b6, m6⟩
  have K7 : CalG l.prog w K mg base 2 "is_lot" f7 fd7 _ (spIsLot K) := ⟨ok_isLot F7 B K6.g F6.kp b6 m6, F7.kp, b7, m7⟩
  have K8 : CalG l.prog w K mg base 1 "lies_in" f8 fd8 _ (spIn K P8 liesF) := ⟨ok_lies F8 B2 B8, F8.kp, b8, m8⟩
  have K9 : CalG l.prog w K mg base 1 "meets" f9 fd9 _ (spIn K P9 meetsF) := ⟨ok_meets F9 B B9, F9.kp, b9, m9⟩
  have K10 : CalG l.prog w K mg base 1 "all_without" f10 fd10 _ (spAllW K P10) := ⟨ok_allw F10 B B10, F10.kp, b10, m10⟩
  have K11 : CalG l.prog w K mg base 1 "leading_in" f11 fd11 _ (spLeadIn K) := ⟨ok_leadIn F11 B B2, F11.kp, b11, m11⟩
  have K12 : CalG l.prog w K mg base 2 "goal_in" f12 fd12 _ (spGoalIn K P10) := ⟨ok_goalIn F12 K11 K10, F12.kp, b12, m12⟩
  have K17 : CalG l.prog w K mg base 3 "_need_arrows" f17 fd17 _ (spNAr K) := ⟨ok_nar F17 B K7, F17.kp, b17, m17⟩
  have K18 : CalG l.prog w K mg base 3 "_need_causes" f18 fd18 _ (spNCa K) := ⟨ok_nca F18 B N K7, F18.kp, b18, m18⟩
  have K16 : CalG l.prog w K mg base 4 "need_drawing" f16 fd16 _ (spNDr K) := ⟨ok_ndr F16 B N K5 K6 K17 K18, F16.kp, b16, m16⟩
  have K19 : CalG l.prog w K mg base 5 "need_lot" f19 fd19 _ (spNLo K) := ⟨ok_nlo F19 B K16 K7, F19.kp, b19, m19⟩
  have K20 : CalG l.prog w K mg base 6 "need_lot_within" f20 fd20 _ (spNLW K P8) := ⟨ok_nlw F20 K19 K8, F20.kp, b20, m20⟩
  have K21 : CalG l.prog w K mg base 7 "leading" f21 fd21 _ (spLdg K P8) := ⟨ok_ldg F21 K20 K11, F21.kp, b21, m21⟩
  have K22 : CalG l.prog w K mg base 6 "goal_of" f22 fd22 _ (spGof K P9 P10) := ⟨ok_gof F22 K19 K9 K12, F22.kp, b22, m22⟩
  have K25 : CalG l.prog w K mg base 1 "_law_begin" f25 fd25 _ (spBegin K) := ⟨ok_begin F25 B, F25.kp, b25, m25⟩
  have K26 : CalG l.prog w K mg base 2 "_law_draw" f26 fd26 _ (spDraw K) := ⟨ok_draw F26 B F24 b24 m24, F26.kp, b26, m26⟩
  have K27 : CalG l.prog w K mg base 3 "_law_drawing" f27 fd27 _ (spDrawing K) := ⟨ok_drawing F27 B K26.g F26.kp b26 m26, F27.kp, b27, m27⟩
  have K28 : CalG l.prog w K mg base 11 "_law_comes" f28 fd28 _ (spCom K 11) := ⟨ok_com F28 b28 m28 11, F28.kp, b28, m28⟩
  have K29 : CalG l.prog w K mg base 12 "_law_due" f29 fd29 _ (spDue K) := ⟨ok_due F29 B K28, F29.kp, b29, m29⟩
  have K30 : CalG l.prog w K mg base 1 "_law_like" f30 fd30 _ (spLike K) := ⟨ok_like F30 B, F30.kp, b30, m30⟩
  have K31 : CalG l.prog w K mg base 13 "_law_right" f31 fd31 _ (spRight K P8 P9 P10) := ⟨ok_right F31 B K27 K26 K29 K30 K22 K21, F31.kp, b31, m31⟩
  exact ok_law F32 B K25 K31 K22 K30 (kb3 F22 fun _ _ _ _ _ _ _ _ _ => rfl)
end K3
set_option Elab.async false
open PySem PySem.W PyProof.Rows
set_option maxRecDepth 100000 in
set_option maxHeartbeats 0 in
theorem PySem.Challenge.cw_deedseen_k03_whole_goals_holds : PySem.Challenge.rw_deedseen_k03_whole_goals.Holds := by
  w_on; o_law; k_head; (case hw => w_witness2)
  k_fill
  refine G9.walk_G (l := PySem.Challenge.rw_deedseen_k03_whole_goals) (n := 63) (k := 14) (x := "script") rfl (by decide) rfl ⟨rfl, by decide, by decide⟩ (fun w h Y => PySem.W.kIn_of Y) ?F
  case F =>
    intro w mean mg mb fa h KX T hmg
    refine' K3.law_G KX T hmg ?d5 ?d6 ?d7 ?d8 ?d9 ?d10 ?d11 ?d12 ?d16 ?d17 ?d18 ?d19 ?d20 ?d21 ?d22 ?d24 ?d25 ?d26 ?d27 ?d28 ?d29 ?d30 ?d31 ?d32 ?t8 ?t9 ?t10 ?r8 ?r9 ?r10 ?n0 ?n1 ?z0 ?z1 ?z2 ?z3 ?z4 ?z5 ?z6 ?z7 ?z8 ?z9 ?z10 ?z11 ?z12
    case d5 => refine' K3.def_mk ?a ?l ?c ?k; (case a => k_is); (case l => k_is); (case c => k_is); (case k => k_is)
    case d6 => refine' K3.def_mk ?a ?l ?c ?k; (case a => k_is); (case l => k_is); (case c => k_is); (case k => k_is)
    case d7 => refine' K3.def_mk ?a ?l ?c ?k; (case a => k_is); (case l => k_is); (case c => k_is); (case k => k_is)
    case d8 => refine' K3.def_mk ?a ?l ?c ?k; (case a => k_is); (case l => k_is); (case c => k_is); (case k => k_is)
    case d9 => refine' K3.def_mk ?a ?l ?c ?k; (case a => k_is); (case l => k_is); (case c => k_is); (case k => k_is)
    case d10 => refine' K3.def_mk ?a ?l ?c ?k; (case a => k_is); (case l => k_is); (case c => k_is); (case k => k_is)
    case d11 => refine' K3.def_mk ?a ?l ?c ?k; (case a => k_is); (case l => k_is); (case c => k_is); (case k => k_is)
    case d12 => refine' K3.def_mk ?a ?l ?c ?k; (case a => k_is); (case l => k_is); (case c => k_is); (case k => k_is)
    case d16 => refine' K3.def_mk ?a ?l ?c ?k; (case a => k_is); (case l => k_is); (case c => k_is); (case k => k_is)
    case d17 => refine' K3.def_mk ?a ?l ?c ?k; (case a => k_is); (case l => k_is); (case c => k_is); (case k => k_is)
    case d18 => refine' K3.def_mk ?a ?l ?c ?k; (case a => k_is); (case l => k_is); (case c => k_is); (case k => k_is)
    case d19 => refine' K3.def_mk ?a ?l ?c ?k; (case a => k_is); (case l => k_is); (case c => k_is); (case k => k_is)
    case d20 => refine' K3.def_mk ?a ?l ?c ?k; (case a => k_is); (case l => k_is); (case c => k_is); (case k => k_is)
    case d21 => refine' K3.def_mk ?a ?l ?c ?k; (case a => k_is); (case l => k_is); (case c => k_is); (case k => k_is)
    case d22 => refine' K3.def_mk ?a ?l ?c ?k; (case a => k_is); (case l => k_is); (case c => k_is); (case k => k_is)
    case d24 => refine' K3.def_mk ?a ?l ?c ?k; (case a => k_is); (case l => k_is); (case c => k_is); (case k => k_is)
    case d25 => refine' K3.def_mk ?a ?l ?c ?k; (case a => k_is); (case l => k_is); (case c => k_is); (case k => k_is)
    case d26 => refine' K3.def_mk ?a ?l ?c ?k; (case a => k_is); (case l => k_is); (case c => k_is); (case k => k_is)
    case d27 => refine' K3.def_mk ?a ?l ?c ?k; (case a => k_is); (case l => k_is); (case c => k_is); (case k => k_is)
    case d28 => refine' K3.def_mk ?a ?l ?c ?k; (case a => k_is); (case l => k_is); (case c => k_is); (case k => k_is)
    case d29 => refine' K3.def_mk ?a ?l ?c ?k; (case a => k_is); (case l => k_is); (case c => k_is); (case k => k_is)
    case d30 => refine' K3.def_mk ?a ?l ?c ?k; (case a => k_is); (case l => k_is); (case c => k_is); (case k => k_is)
    case d31 => refine' K3.def_mk ?a ?l ?c ?k; (case a => k_is); (case l => k_is); (case c => k_is); (case k => k_is)
    case d32 => refine' K3.def_mk ?a ?l ?c ?k; (case a => k_is); (case l => k_is); (case c => k_is); (case k => k_is)
    case t8 => exact K3.tab_mk (by kernel_rfl)
    case t9 => exact K3.tab_mk (by kernel_rfl)
    case t10 => exact K3.tab_mk (by kernel_rfl)
    case r8 => exact ⟨_, rfl⟩
    case r9 => exact ⟨_, rfl⟩
    case r10 => exact ⟨_, rfl⟩
    case n0 => k_is
    case n1 => k_is
    case z0 => unfold K3.NoneAt; k_is
    case z1 => unfold K3.NoneAt; k_is
    case z2 => unfold K3.NoneAt; k_is
    case z3 => unfold K3.NoneAt; k_is
    case z4 => unfold K3.NoneAt; k_is
    case z5 => unfold K3.NoneAt; k_is
    case z6 => unfold K3.NoneAt; k_is
    case z7 => unfold K3.NoneAt; k_is
    case z8 => unfold K3.NoneAt; k_is
    case z9 => unfold K3.NoneAt; k_is
    case z10 => unfold K3.NoneAt; k_is
    case z11 => unfold K3.NoneAt; k_is
    case z12 => unfold K3.NoneAt; k_is
