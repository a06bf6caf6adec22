import PyProof.Rows.All
import Wide.All
import OpenK.AllK
import Wide.FinOn
import HandS.ForMost
import HandS.ForExc
import HandS.HeadHook2
import HandS.Wide
import HandS.TupAny
import HandS.TupMul
import HandS.Deep
import HandS.IsInst
import HandS.Flow
import HandS.Conv
import HandS.Zip
import HandS.More
import HandS.Defaults
import HandS.CallSlots
import HandS.Head0
import HandS.Head1
import HandS.Head2
import HandS.HeadHook1
import HandS.SetFor
import HandS.Strs
import HandS.Text
import HandS.SortInts
import HandS.Iter
import HandS.Zip0
import HandS.MakeKw
import HandS.MakeKwOnly
import HandS.Dict
import HandS.DictComp
import HandS.ExcInit
import HandS.Small
import PyProof.Rows.SortShellAny
import HandS.SlotsOwn
import HandS.Style
import HandS.HeadHook3
import HandS.Codes
import KE.DataFind
import HandS.ExcIs
import HandS.ExcField
import HandS.TryOnly
import HandS.HotCalls
import KE.KStateDown
import HandS.Ends
import HandS.Words
import HandS.WordsExc
import HandS.HeadEnd
import PySem.Challenge.RW_leavetaking_k49_peeling_whole
set_option Elab.async false
set_option linter.all false
set_option maxRecDepth 100000
set_option maxHeartbeats 4000000
namespace Sm
open PySem PySem.Spec PyProof.Rows L2

/-! ### data -/
inductive D where
  | non | bl (b : Bool) | int (i : Int) | str (x : Str)
  | tup (xs : List D) | lst (xs : List D) | scr (xs : List Int)
  | obj (c : Str) (fn : List Str) (fv : List D)
  | dct (ks : List Key) (vs : List D)
  /-- a dict by tuples of ints and texts -/
  | dtt (ks : List (List Key)) (vs : List D)
  /-- an exception of an own class that is handled -/
  | err (c : Str) (fn : List Str) (fv : List D)
  deriving Inhabited

inductive Res (α : Type) where
  | ok (a : α) | exc (c : Str) (fn : List Str) (fv : List D) | stuck
  deriving Inhabited
def Res.bind {α β : Type} : Res α → (α → Res β) → Res β
  | .ok a, f => f a
  | .exc c n v, _ => .exc c n v
  | .stuck, _ => .stuck
instance : Monad Res where
  pure := .ok
  bind := Res.bind
@[simp] theorem bind_ok {α β : Type} (a : α) (f : α → Res β) : (Res.ok a >>= f) = f a := rfl
@[simp] theorem bind_exc {α β : Type} {c n v} (f : α → Res β) : ((Res.exc c n v : Res α) >>= f) = .exc c n v := rfl
@[simp] theorem bind_stuck {α β : Type} (f : α → Res β) : ((Res.stuck : Res α) >>= f) = .stuck := rfl
@[simp] theorem pure_ok {α : Type} (a : α) : (pure a : Res α) = .ok a := rfl

/-- it has no dict of its own -/
def NoD (K : PySem.W.Frag) (H : Hp) (a : Addr) : Prop := (∃ o u, H a = some (.frz o u) ∧ o.dict = none) ∨ ∃ o, K.lookup a = some o ∧ o.dict = none
/-- a handled exception's object -/
def excH (a C : Addr) (d : Option Addr) : HO := .ext fun h => ∃ (oe : Obj) (vs : Array Value), h.get? a = some oe ∧ Zc (.ref C) d oe ∧ oe.data = .fields vs
mutual
def Rep (K : PySem.W.Frag) (H : Hp) : D → V → Prop
  | .non, v => v = .non
  | .bl b, v => v = .bl b
  | .int i, v => v = .int i
  | .str s, v => v = .str s
  | .tup xs, v => ∃ a vs, v = .ref a ∧ SqT K H a vs ∧ NoD K H a ∧ Reps K H xs vs
  | .lst xs, v => ∃ a vs, v = .ref a ∧ H a = some (.lst vs) ∧ Reps K H xs vs
  | .scr ns, v => ∃ a, v = .ref a ∧ SqL K H a (ns.map V.int)
  | .obj c fn fv, v => ∃ a dx vs, v = .ref a ∧ H a = some (.ins (He.ga K c) dx (fn.zip vs)) ∧ fn.length = vs.length ∧ Reps K H fv vs
  | .dct ks ds, v => ∃ a vs, v = .ref a ∧ H a = some (.dK (ks.zip vs)) ∧ ks.length = vs.length ∧ Reps K H ds vs
  | .dtt ks ds, v => ∃ a vs, v = .ref a ∧ H a = some (.dT (ks.zip vs)) ∧ ks.length = vs.length ∧ Reps K H ds vs
  | .err c fn fv, v => ∃ a od, v = .ref a ∧ H a = some (excH a (He.ga K c) od) ∧ ((fn = [] ∧ fv = [] ∧ od = none) ∨ ∃ d vs, od = some d ∧ H d = some (.xd (fn.zip vs)) ∧ fn.length = vs.length ∧ Reps K H fv vs)
def Reps (K : PySem.W.Frag) (H : Hp) : List D → List V → Prop
  | [], vs => vs = []
  | d :: ds, vs => ∃ v r, vs = v :: r ∧ Rep K H d v ∧ Reps K H ds r
end

/-! ### heaps -/
def Ex (H H' : Hp) : Prop := ∀ a o, H a = some o → H' a = some o
theorem Ex.refl (H : Hp) : Ex H H := fun _ _ h => h
theorem Ex.trans {H H1 H2 : Hp} (a : Ex H H1) (b : Ex H1 H2) : Ex H H2 := fun x o h => b x o (a x o h)
theorem Ex.new {H : Hp} {p : Addr} {o : HO} (h : H p = none) : Ex H (upd H p o) := fun a u e => by
  rw [upd_ne (ne_of_none e h)]
  exact e
theorem Ex.mut {H H' : Hp} {p : Addr} {o : HO} (e : Ex H H') (h : H p = none) : Ex H (upd H' p o) := fun a u ha => by
  rw [upd_ne (ne_of_none ha h)]
  exact e a u ha
theorem Ex.free {H H' : Hp} {p : Addr} (e : Ex H H') (h : H' p = none) : H p = none := by
  cases h1 : H p with
  | none => rfl
  | some o =>
    rw [e p o h1] at h
    cases h
theorem Ex.rd {H H' : Hp} {a : Addr} {u : HO} (e : Ex H H') (h : Rd H a u) : Rd H' a u := by
  rcases h with h | ⟨o, h⟩
  · exact Or.inl (e a _ h)
  · exact Or.inr ⟨o, e a _ h⟩
theorem Ex.l {K : PySem.W.Frag} {H H' : Hp} {a : Addr} {xs : List V} (e : Ex H H') (h : SqL K H a xs) : SqL K H' a xs := by
  rcases h with h | h
  · exact Or.inl (e.rd h)
  · exact Or.inr h
theorem Ex.t {K : PySem.W.Frag} {H H' : Hp} {a : Addr} {xs : List V} (e : Ex H H') (h : SqT K H a xs) : SqT K H' a xs := by
  rcases h with h | h
  · exact Or.inl (e.rd h)
  · exact Or.inr h
theorem Ex.nd {K : PySem.W.Frag} {H H' : Hp} {a : Addr} (e : Ex H H') (h : NoD K H a) : NoD K H' a := by
  rcases h with ⟨o, u, h1, h2⟩ | h
  · exact Or.inl ⟨o, u, e _ _ h1, h2⟩
  · exact Or.inr h
mutual
theorem Rep.mono {K : PySem.W.Frag} {H H' : Hp} (e : Ex H H') : ∀ {d : D} {v : V}, Rep K H d v → Rep K H' d v
  | .non, _, h => h
  | .bl _, _, h => h
  | .int _, _, h => h
  | .str _, _, h => h
  | .tup xs, v, h => by
    simp only [Rep] at h ⊢
    obtain ⟨a, vs, e1, h1, hn, h2⟩ := h
    exact ⟨a, vs, e1, e.t h1, e.nd hn, Reps.mono e h2⟩
  | .lst xs, v, h => by
    simp only [Rep] at h ⊢
    obtain ⟨a, vs, e1, h1, h2⟩ := h
    exact ⟨a, vs, e1, e _ _ h1, Reps.mono e h2⟩
  | .scr ns, v, h => by
    simp only [Rep] at h ⊢
    obtain ⟨a, e1, h1⟩ := h
    exact ⟨a, e1, e.l h1⟩
  | .obj c fn fv, v, h => by
    simp only [Rep] at h ⊢
    obtain ⟨a, dx, vs, e1, h1, h2, h3⟩ := h
    exact ⟨a, dx, vs, e1, e _ _ h1, h2, Reps.mono e h3⟩
  | .dct ks ds, v, h => by
    simp only [Rep] at h ⊢
    obtain ⟨a, vs, e1, h1, h2, h3⟩ := h
    exact ⟨a, vs, e1, e _ _ h1, h2, Reps.mono e h3⟩
  | .dtt ks ds, v, h => by
    simp only [Rep] at h ⊢
    obtain ⟨a, vs, e1, h1, h2, h3⟩ := h
    exact ⟨a, vs, e1, e _ _ h1, h2, Reps.mono e h3⟩
  | .err c fn fv, v, h => by
    simp only [Rep] at h ⊢
    obtain ⟨a, od, e1, h1, h2⟩ := h
    refine ⟨a, od, e1, e _ _ h1, ?_⟩
    rcases h2 with h2 | ⟨d, vs, e2, h3, h4, h5⟩
    · exact .inl h2
    · exact .inr ⟨d, vs, e2, e _ _ h3, h4, Reps.mono e h5⟩
theorem Reps.mono {K : PySem.W.Frag} {H H' : Hp} (e : Ex H H') : ∀ {ds : List D} {vs : List V}, Reps K H ds vs → Reps K H' ds vs
  | [], _, h => by
    simp only [Reps] at h ⊢
    exact h
  | d :: ds, vs, h => by
    simp only [Reps] at h ⊢
    obtain ⟨v, r, e1, h1, h2⟩ := h
    exact ⟨v, r, e1, Rep.mono e h1, Reps.mono e h2⟩
end
end Sm

set_option autoImplicit true
set_option Elab.async false
set_option linter.all false
set_option maxRecDepth 100000
set_option maxHeartbeats 4000000
namespace Sm
open PySem PySem.Spec PyProof.Rows L2

/-- from (B, H) to (B', H'): B the part whose objects stay for good -/
structure Xt (B H B' H' : Hp) : Prop where
  b : Ex B B'
  h : Ex H H'
  s : Ex B' H'
  off : ∀ a, B a = none → H a ≠ none → B' a = none
theorem Xt.refl {B H : Hp} (s : Ex B H) : Xt B H B H := ⟨Ex.refl _, Ex.refl _, s, fun _ h _ => h⟩
theorem Xt.trans {B H B1 H1 B2 H2 : Hp} (x : Xt B H B1 H1) (y : Xt B1 H1 B2 H2) : Xt B H B2 H2 :=
  ⟨x.b.trans y.b, x.h.trans y.h, y.s, fun a h1 h2 => y.off a (x.off a h1 h2) fun e => by
    cases q : H a with
    | none => exact h2 q
    | some o => rw [x.h a o q] at e; cases e⟩
/-- a new object joins B -/
theorem Xt.new {B H : Hp} {p : Addr} {o : HO} (s : Ex B H) (h : H p = none) : Xt B H (upd B p o) (upd H p o) :=
  ⟨Ex.new (s.free h), Ex.new h, fun a u e => by
    by_cases q : a = p
    · subst q; rw [upd_same] at e ⊢; exact e
    · rw [upd_ne q] at e ⊢; exact s a u e, fun a h1 h2 => by
    by_cases q : a = p
    · subst q; exact absurd h h2
    · rw [upd_ne q]; exact h1⟩
/-- a new object that stays outside of B -/
theorem Xt.out {B H : Hp} {p : Addr} {o : HO} (s : Ex B H) (h : H p = none) : Xt B H B (upd H p o) :=
  ⟨Ex.refl _, Ex.new h, fun a u e => by rw [upd_ne (ne_of_none (s a u e) h)]; exact s a u e, fun a h1 _ => h1⟩

/-- a thing of one's own: a list, a dict, an instance that is being made -/
inductive Ob where
  | lst (xs : List D) | dct (ks : List Key) (ds : List D) | dtt (ks : List (List Key)) (ds : List D) | ins (c : Str) (fn : List Str) (fv : List D)
  deriving Inhabited
def RepO (K : PySem.W.Frag) (B : Hp) (o : Ob) (h : HO) : Prop := match o with
  | .lst xs => ∃ vs, h = .lst vs ∧ Reps K B xs vs
  | .dct ks ds => ∃ vs, h = .dK (ks.zip vs) ∧ ks.length = vs.length ∧ Reps K B ds vs
  | .dtt ks ds => ∃ vs, h = .dT (ks.zip vs) ∧ ks.length = vs.length ∧ Reps K B ds vs
  | .ins c fn fv => ∃ dx vs, h = .ins (He.ga K c) dx (fn.zip vs) ∧ fn.length = vs.length ∧ Reps K B fv vs
theorem RepO.mono {K B B'} (e : Ex B B') {o : Ob} {h : HO} (r : RepO K B o h) : RepO K B' o h := by
  cases o with
  | lst xs => obtain ⟨vs, e1, h1⟩ := r; exact ⟨vs, e1, h1.mono e⟩
  | dct ks ds => obtain ⟨vs, e1, e2, h1⟩ := r; exact ⟨vs, e1, e2, h1.mono e⟩
  | dtt ks ds => obtain ⟨vs, e1, e2, h1⟩ := r; exact ⟨vs, e1, e2, h1.mono e⟩
  | ins c fn fv => obtain ⟨dx, vs, e1, e2, h1⟩ := r; exact ⟨dx, vs, e1, e2, h1.mono e⟩
theorem repO_lst {K B xs h} (r : RepO K B (.lst xs) h) : ∃ vs, h = .lst vs ∧ Reps K B xs vs := r
theorem mk_repO {K B xs vs} (r : Reps K B xs vs) : RepO K B (.lst xs) (.lst vs) := ⟨vs, rfl, r⟩
def Ob.d : Ob → D
  | .lst xs => .lst xs
  | .dct ks ds => .dct ks ds
  | .dtt ks ds => .dtt ks ds
  | .ins c fn fv => .obj c fn fv
theorem RepO.rep {K B o h p} (r : RepO K B o h) (e : B p = some h) : Rep K B o.d (.ref p) := by
  cases o with
  | lst xs =>
    obtain ⟨vs, e1, h1⟩ := r
    simp only [Ob.d, Rep]
    exact ⟨p, vs, rfl, e.trans (congrArg some e1), h1⟩
  | dct ks ds =>
    obtain ⟨vs, e1, e2, h1⟩ := r
    simp only [Ob.d, Rep]
    exact ⟨p, vs, rfl, e.trans (congrArg some e1), e2, h1⟩
  | dtt ks ds =>
    obtain ⟨vs, e1, e2, h1⟩ := r
    simp only [Ob.d, Rep]
    exact ⟨p, vs, rfl, e.trans (congrArg some e1), e2, h1⟩
  | ins c fn fv =>
    obtain ⟨dx, vs, e1, e2, h1⟩ := r
    simp only [Ob.d, Rep]
    exact ⟨p, dx, vs, rfl, e.trans (congrArg some e1), e2, h1⟩
inductive Cl where
  | un | sh (d : D) | ow (o : Ob)
  deriving Inhabited
abbrev En := List Cl

structure SI (K : PySem.W.Frag) (B0 H0 : Hp) (env : En) (σ : L2.St) (B H : Hp) : Prop where
  len : σ.length = env.length
  xb : Ex B0 B
  xh : Ex H0 H
  xs : Ex B H
  off : ∀ a, B0 a = none → H0 a ≠ none → B a = none
  sh : ∀ (i : Nat) (d : D), env[i]? = some (Cl.sh d) → ∃ v : V, σ[i]? = some (some v) ∧ Rep K B d v
  ow : ∀ (i : Nat) (o : Ob), env[i]? = some (Cl.ow o) → ∃ (p : Addr) (ho : HO), σ[i]? = some (some (V.ref p)) ∧ H0 p = none ∧ B p = none ∧ H p = some ho ∧ RepO K B o ho
  dj : ∀ (i j : Nat) (xs ys : Ob) (p : Addr), env[i]? = some (Cl.ow xs) → env[j]? = some (Cl.ow ys) → σ[i]? = some (some (V.ref p)) → σ[j]? = some (some (V.ref p)) → i = j
theorem SI.xt0 {K B0 H0 env σ B H} (I : SI K B0 H0 env σ B H) : Xt B0 H0 B H := ⟨I.xb, I.xh, I.xs, I.off⟩
theorem SI.xt {K : PySem.W.Frag} {B0 H0 : Hp} {env : En} {σ : L2.St} {B H B' H' : Hp} (I : SI K B0 H0 env σ B H) (x : Xt B H B' H') : SI K B0 H0 env σ B' H' := by
  have y := I.xt0.trans x
  refine ⟨I.len, y.b, y.h, y.s, y.off, fun i d e => ?_, fun i xs e => ?_, I.dj⟩
  · obtain ⟨v, e1, r⟩ := I.sh i d e
    exact ⟨v, e1, r.mono x.b⟩
  · obtain ⟨p, vs, e1, h0, hb, hh, r⟩ := I.ow i xs e
    exact ⟨p, vs, e1, h0, x.off p hb (by rw [hh]; exact fun z => by cases z), x.h _ _ hh, r.mono x.b⟩

/-- what an exception bears -/
def XR (K : PySem.W.Frag) (B : Hp) (fn : List Str) (fv : List D) (od : Option Addr) : Prop :=
  (fn = [] ∧ fv = [] ∧ od = none) ∨ ∃ d vs, od = some d ∧ B d = some (.xd (fn.zip vs)) ∧ fn.length = vs.length ∧ Reps K B fv vs
theorem XR.mono {K B B' fn fv od} (e : Ex B B') (h : XR K B fn fv od) : XR K B' fn fv od := by
  rcases h with h | ⟨d, vs, h1, h2, h3, h4⟩
  · exact .inl h
  · exact .inr ⟨d, vs, h1, e _ _ h2, h3, h4.mono e⟩

/-- a reading, whatever it hands on (β: V, Bool, List V, ..), does what m does; R H B' H' a v: v stands for a -/
abbrev RG (α β : Type) := PySem.W.Frag → Hp → Hp → Hp → α → β → Prop
def Post {α β : Type} (R : RG α β) (K : PySem.W.Frag) (W : WX) (σ : L2.St) (B H : Hp) (r : Res α) (T : (β → Hp → Prop) → Prop) : Prop :=
  match r with
  | .ok a => ∀ Q : β → Hp → Prop, (∀ v B' H', Xt B H B' H' → R K H B' H' a v → Q v H') → T Q
  | .exc c fn fv => ∀ Q : β → Hp → Prop, (∀ od B' H', Xt B H B' H' → XR K B' fn fv od → W (.ref (He.ga K c)) od σ H') → T Q
  | .stuck => True
def Sim {α β : Type} (R : RG α β) (K : PySem.W.Frag) (W : WX) (t : L2.St → Hp → (β → Hp → Prop) → Prop) (m : En → Res α) : Prop :=
  ∀ B0 H0 env σ B H, SI K B0 H0 env σ B H → Post R K W σ B H (m env) (t σ H)
/-- stands for good | a list that may be changed later is allowed at the top | a new list that nobody holds -/
def RP : RG D V := fun K _ B' _ d v => Rep K B' d v
def RT : RG D V := fun K _ B' H' d v => Rep K B' d v ∨ ∃ xs a vs, d = .lst xs ∧ v = .ref a ∧ H' a = some (.lst vs) ∧ Reps K B' xs vs
def RF : RG (List D) V := fun K H B' H' xs v => ∃ p vs, v = .ref p ∧ H p = none ∧ B' p = none ∧ H' p = some (.lst vs) ∧ Reps K B' xs vs
def RB : RG Bool Bool := fun _ _ _ _ a b => a = b
def RA : RG (List D) (List V) := fun K _ B' _ ds vs => Reps K B' ds vs
def RO : RG (Option Int) (Option Int) := fun _ _ _ _ a b => a = b

section
variable {K : PySem.W.Frag} {W : WX} {α β : Type} {R : RG α β} {t : L2.St → Hp → (β → Hp → Prop) → Prop} {m : En → Res α} {B0 H0 B H : Hp} {env : En} {σ : L2.St}
theorem Sim.ok (h : Sim R K W t m) (I : SI K B0 H0 env σ B H) {a : α} (e : m env = .ok a) {Q : β → Hp → Prop} (k : ∀ v B' H', Xt B H B' H' → SI K B0 H0 env σ B' H' → R K H B' H' a v → Q v H') : t σ H Q := by
  have q := h B0 H0 env σ B H I
  rw [e] at q
  exact q Q fun v B' H' x r => k v B' H' x (I.xt x) r
theorem Sim.exc (h : Sim R K W t m) (I : SI K B0 H0 env σ B H) {c : Str} {fn : List Str} {fv : List D} (e : m env = .exc c fn fv) {Q : β → Hp → Prop} (k : ∀ od B' H', Xt B H B' H' → XR K B' fn fv od → W (.ref (He.ga K c)) od σ H') : t σ H Q := by
  have q := h B0 H0 env σ B H I
  rw [e] at q
  exact q Q k
end

def mB {α γ : Type} (m : En → Res α) (f : α → En → Res γ) : En → Res γ := fun env => (m env).bind fun a => f a env
/-- R of a later state is R of an earlier one -/
def Late {α β : Type} (R : RG α β) : Prop := ∀ K (B H B1 H1 B' H' : Hp) a v, Xt B H B1 H1 → R K H1 B' H' a v → R K H B' H' a v
theorem late_P : Late RP := fun _ _ _ _ _ _ _ _ _ _ h => h
theorem late_T : Late RT := fun _ _ _ _ _ _ _ _ _ _ h => h
theorem late_F : Late RF := fun _ _ _ _ _ _ _ _ _ x ⟨p, vs, e1, h1, h2⟩ => ⟨p, vs, e1, x.h.free h1, h2⟩
theorem late_B : Late RB := fun _ _ _ _ _ _ _ _ _ _ h => h
theorem late_A : Late RA := fun _ _ _ _ _ _ _ _ _ _ h => h
theorem late_O : Late RO := fun _ _ _ _ _ _ _ _ _ _ h => h
theorem Post.wrap {α β : Type} {R : RG α β} {K W σ B H} {r : Res α} {T T' : (β → Hp → Prop) → Prop} (h : Post R K W σ B H r T) (k : ∀ Q, T Q → T' Q) : Post R K W σ B H r T' := by
  unfold Post at h ⊢
  cases r with
  | stuck => trivial
  | exc c fn fv => exact fun Q z => k Q (h Q z)
  | ok a => exact fun Q z => k Q (h Q z)
/-- a reading at the end -/
theorem Sim.post {α β : Type} {R : RG α β} {K W t} {m : En → Res α} {B0 H0 env σ B H B1 H1} (h : Sim R K W t m) (lt : Late R) (I : SI K B0 H0 env σ B1 H1) (x : Xt B H B1 H1) : Post R K W σ B H (m env) (t σ H1) := by
  have q := h B0 H0 env σ B1 H1 I
  unfold Post at q ⊢
  cases e : m env with
  | stuck => trivial
  | exc c fn fv => rw [e] at q; exact fun Q z => q Q fun od B' H' y r => z od B' H' (x.trans y) r
  | ok a => rw [e] at q; exact fun Q z => q Q fun v B' H' y r => z v B' H' (x.trans y) (lt _ _ _ _ _ _ _ _ _ x r)
/-- a reading behind a reading -/
theorem Sim.bind {K : PySem.W.Frag} {W : WX} {α β γ δ : Type} {R : RG α β} {S : RG γ δ} {t : L2.St → Hp → (β → Hp → Prop) → Prop} {u : β → L2.St → Hp → (δ → Hp → Prop) → Prop} {m : En → Res α} {f : α → En → Res γ}
    (h : Sim R K W t m)
    (k : ∀ B0 H0 env σ B H a v B1 H1, SI K B0 H0 env σ B1 H1 → Xt B H B1 H1 → R K H B1 H1 a v → Post S K W σ B H (f a env) (u v σ H1)) :
    Sim S K W (fun σ H Q => t σ H fun v H1 => u v σ H1 Q) (mB m f) := by
  intro B0 H0 env σ B H I
  unfold mB
  cases e : m env with
  | stuck => trivial
  | exc c fn fv =>
    intro Q q
    exact h.exc I e fun od B' H' x r => q od B' H' x r
  | ok a =>
    show Post S K W σ B H (f a env) _
    cases e2 : f a env with
    | stuck => trivial
    | exc c fn fv =>
      intro Q q
      refine h.ok I e fun v B1 H1 x I1 r => ?_
      have z := k B0 H0 env σ B H a v B1 H1 I1 x r
      rw [e2] at z
      exact z Q q
    | ok c =>
      intro Q q
      refine h.ok I e fun v B1 H1 x I1 r => ?_
      have z := k B0 H0 env σ B H a v B1 H1 I1 x r
      rw [e2] at z
      exact z Q q

/-! ### weakening -/
theorem RP.t {K H B' H' d v} (r : RP K H B' H' d v) : RT K H B' H' d v := .inl r
theorem Sim.imp {K : PySem.W.Frag} {W : WX} {α β : Type} {R S : RG α β} {t : L2.St → Hp → (β → Hp → Prop) → Prop} {m : En → Res α} (h : Sim R K W t m) (k : ∀ H B' H' a v, R K H B' H' a v → S K H B' H' a v) : Sim S K W t m := by
  intro B0 H0 env σ B H I
  have q := h B0 H0 env σ B H I
  cases e : m env with
  | stuck => trivial
  | exc c fn fv => rw [e] at q; exact q
  | ok a =>
    rw [e] at q
    exact fun Q z => q Q fun v B' H' x r => z v B' H' x (k _ _ _ _ _ r)
theorem Sim.pt {K W t m} (h : Sim RP K W t m) : Sim RT K W t m := h.imp fun _ _ _ _ _ r => .inl r
/-- a new list, frozen -/
def mFz (m : En → Res (List D)) : En → Res D := fun env => (m env).bind fun xs => .ok (.lst xs)
theorem Sim.fz {K W t m} (h : Sim RF K W t m) : Sim RP K W t (mFz m) := by
  intro B0 H0 env σ B H I
  have q := h B0 H0 env σ B H I
  unfold mFz
  cases e : m env with
  | stuck => trivial
  | exc c fn fv => rw [e] at q; exact q
  | ok a =>
    rw [e] at q
    intro Q z
    refine q Q fun v B' H' x r => ?_
    obtain ⟨p, vs, e1, h1, h2, h3, h4⟩ := r
    have sb : Ex B' (upd B' p (.lst vs)) := Ex.new h2
    refine z v (upd B' p (.lst vs)) H' ⟨x.b.trans sb, x.h, fun b o eb => ?_, fun b h5 h6 => ?_⟩ ?_
    · by_cases hb : b = p
      · subst hb; rw [upd_same] at eb; rw [h3]; exact eb
      · rw [upd_ne hb] at eb; exact x.s b o eb
    · by_cases hb : b = p
      · subst hb; exact absurd h1 h6
      · rw [upd_ne hb]; exact x.off b h5 h6
    · show Rep K _ (.lst a) v
      simp only [Rep]
      exact ⟨p, vs, e1, upd_same, h4.mono sb⟩
/-- .. read only -/
theorem Sim.ft {K W t m} (h : Sim RF K W t m) : Sim RT K W t (mFz m) := h.fz.pt

/-! ### expressions of a text -/
structure SE {α : Type} (X : Cx) (W : WX) (R : RG α V) (e : Expr) (m : En → Res α) : Prop where
  ex : ∃ t, PE X e t ∧ Sim R X.K W t m
structure ST (X : Cx) (W : WX) (e : Expr) (m : En → Res Bool) : Prop where
  ex : ∃ t, PT X e t ∧ Sim RB X.K W t m
structure SA (X : Cx) (W : WX) (es : List Expr) (m : En → Res (List D)) : Prop where
  ex : ∃ t, PA X es t ∧ Sim RA X.K W t m
structure SO (X : Cx) (W : WX) (e : Option Expr) (m : En → Res (Option Int)) : Prop where
  ex : ∃ t, PO X e t ∧ Sim RO X.K W t m
theorem SE.pt {X W e m} (h : SE X W RP e m) : SE X W RT e m := let ⟨t, p, s⟩ := h.ex; ⟨t, p, s.pt⟩
theorem SE.ft {X W e m} (h : SE X W RF e m) : SE X W RT e (mFz m) := let ⟨t, p, s⟩ := h.ex; ⟨t, p, s.ft⟩
theorem SE.fz {X W e m} (h : SE X W RF e m) : SE X W RP e (mFz m) := let ⟨t, p, s⟩ := h.ex; ⟨t, p, s.fz⟩

/-! ### names, constants -/
def mVar (i : Nat) : En → Res D := fun env => match env[i]? with
  | some (.sh d) => .ok d
  | _ => .stuck
/-- also a list of one's own -/
def mVarT (i : Nat) : En → Res D := fun env => match env[i]? with
  | some (.sh d) => .ok d
  | some (.ow (.lst xs)) => .ok (.lst xs)
  | _ => .stuck
def mC (d : D) : En → Res D := fun _ => .ok d
theorem sim_var {K W} (i : Nat) : Sim RP K W (tVar i) (mVar i) := by
  intro B0 H0 env σ B H I
  unfold mVar
  cases e : env[i]? with
  | none => trivial
  | some c =>
    cases c with
    | un => trivial
    | ow xs => trivial
    | sh d =>
      intro Q q
      obtain ⟨v, e1, r⟩ := I.sh i d e
      exact ⟨v, e1, q v B H (Xt.refl I.xs) r⟩
theorem sim_varT {K W} (i : Nat) : Sim RT K W (tVar i) (mVarT i) := by
  intro B0 H0 env σ B H I
  unfold mVarT
  cases e : env[i]? with
  | none => trivial
  | some c =>
    cases c with
    | un => trivial
    | sh d =>
      intro Q q
      obtain ⟨v, e1, r⟩ := I.sh i d e
      exact ⟨v, e1, q v B H (Xt.refl I.xs) (.inl r)⟩
    | ow o =>
      cases o with
      | lst xs =>
        obtain ⟨p, ho, e1, h0, hb, hh, r⟩ := I.ow i _ e
        obtain ⟨vs, e2, r2⟩ := repO_lst r
        subst e2
        exact fun Q q => ⟨_, e1, q _ B H (Xt.refl I.xs) (.inr ⟨xs, p, vs, rfl, rfl, hh, r2⟩)⟩
      | _ => trivial
theorem sim_c {K W} {v : V} {d : D} (h : ∀ H, Rep K H d v) : Sim RP K W (tC v) (mC d) := fun B0 H0 env σ B H I Q q => q v B H (Xt.refl I.xs) (h B)
theorem se_var {X : Cx} {W : WX} (i : Nat) {x : Str} {pos : Pos} (hN : X.N[i]? = some x := by rfl) (hv : Vis X.env.scope x := by first | exact Or.inl rfl | exact Or.inr (Or.inl rfl) | exact Or.inr (Or.inr rfl)) (hd : (x == ("__debug__" : Str)) = false := by decide)
    (hcd : (x == ("__classdict__" : Str)) = false := by decide) : SE X W RP (.Name x pos) (mVar i) := ⟨_, pe_var hN hv hd hcd, sim_var i⟩
theorem se_varT {X : Cx} {W : WX} (i : Nat) {x : Str} {pos : Pos} (hN : X.N[i]? = some x := by rfl) (hv : Vis X.env.scope x := by first | exact Or.inl rfl | exact Or.inr (Or.inl rfl) | exact Or.inr (Or.inr rfl)) (hd : (x == ("__debug__" : Str)) = false := by decide)
    (hcd : (x == ("__classdict__" : Str)) = false := by decide) : SE X W RT (.Name x pos) (mVarT i) := ⟨_, pe_var hN hv hd hcd, sim_varT i⟩
theorem se_int {X : Cx} {W : WX} {i j pos} : SE X W RP (.Constant (.int i) j pos) (mC (.int i)) := ⟨_, pe_int, sim_c fun _ => rfl⟩
theorem se_bl {X : Cx} {W : WX} {b j pos} : SE X W RP (.Constant (.bool b) j pos) (mC (.bl b)) := ⟨_, pe_bl, sim_c fun _ => rfl⟩
theorem se_non {X : Cx} {W : WX} {j pos} : SE X W RP (.Constant .none j pos) (mC .non) := ⟨_, pe_non, sim_c fun _ => rfl⟩
theorem se_str {X : Cx} {W : WX} {x j pos} : SE X W RP (.Constant (.str x) j pos) (mC (.str x)) := ⟨_, pe_str, sim_c fun _ => rfl⟩

/-! ### operators of two values -/
def ofO {α : Type} : Option α → Res α
  | some a => .ok a
  | none => .stuck
/-- the operator's reading does what f says -/
def SR2 {α : Type} (R : RG α V) (K : PySem.W.Frag) (r : R2) (f : D → D → Option α) : Prop :=
  ∀ (B H : Hp) (x y : V) (d e : D) (z : α), Ex B H → RT K H B H d x → RT K H B H e y → f d e = some z → ∀ Q : VK, (∀ v B' H', Xt B H B' H' → R K H B' H' z v → Q v H') → r x y H Q
def mOp {α : Type} (f : D → D → Option α) (ma mb : En → Res D) : En → Res α := mB ma fun a => mB mb fun b => fun _ => ofO (f a b)
theorem RT.xt {K : PySem.W.Frag} {H B1 H1 B2 H2 G : Hp} {d : D} {v : V} (r : RT K H B1 H1 d v) (x : Xt B1 H1 B2 H2) : RT K G B2 H2 d v := by
  rcases r with r | ⟨xs, a, vs, e1, e2, h1, h2⟩
  · exact .inl (Rep.mono x.b r)
  · exact .inr ⟨xs, a, vs, e1, e2, x.h _ _ h1, h2.mono x.b⟩
theorem sim_op {α : Type} {R : RG α V} {K W} {r : R2} {f : D → D → Option α} {ta tb : TE} {ma mb : En → Res D} (lt : Late R) (hr : SR2 R K r f) (ha : Sim RT K W ta ma) (hb : Sim RT K W tb mb) : Sim R K W (tOp r ta tb) (mOp f ma mb) := by
  intro B0 H0 env σ B H I
  unfold mOp mB
  cases e1 : ma env with
  | stuck => trivial
  | exc c fn fv => exact fun Q q => ha.exc I e1 q
  | ok a =>
    show Post R K W σ B H ((mb env).bind fun b => ofO (f a b)) _
    cases e2 : mb env with
    | stuck => trivial
    | exc c fn fv => exact fun Q q => ha.ok I e1 fun v B1 H1 x I1 r1 => hb.exc I1 e2 fun od B' H' y z => q od B' H' (x.trans y) z
    | ok b =>
      show Post R K W σ B H (ofO (f a b)) _
      cases e3 : f a b with
      | none => trivial
      | some z =>
        intro Q q
        refine ha.ok I e1 fun v B1 H1 x I1 r1 => ?_
        refine hb.ok I1 e2 fun u B2 H2 y I2 r2 => ?_
        exact hr B2 H2 v u a b z I2.xs (r1.xt y) r2 e3 Q fun w B' H' s2 r3 => q w B' H' ((x.trans y).trans s2) (lt _ _ _ _ _ _ _ _ _ (x.trans y) r3)
theorem se_op {α : Type} {R : RG α V} {X : Cx} {W : WX} {op : Operator} {r : R2} {f : D → D → Option α} {a b : Expr} {ma mb : En → Res D} {pos : Pos} (lt : Late R) (ho : OpR X (binaryOp op) r) (hr : SR2 R X.K r f) (ha : SE X W RT a ma) (hb : SE X W RT b mb) :
    SE X W R (.BinOp a op b pos) (mOp f ma mb) := let ⟨ta, pa, sa⟩ := ha.ex; let ⟨tb, pb, sb⟩ := hb.ex; ⟨_, pe_op ho pa pb, sim_op lt hr sa sb⟩
theorem se_cmp {α : Type} {R : RG α V} {X : Cx} {W : WX} {op : CmpOp} {r : R2} {f : D → D → Option α} {a b : Expr} {ma mb : En → Res D} {pos : Pos} (lt : Late R) (ho : OpR X (compareOp op) r) (hr : SR2 R X.K r f) (ha : SE X W RT a ma) (hb : SE X W RT b mb) (hm : behindInMarks op b = false) :
    SE X W R (.Compare a [op] [b] pos) (mOp f ma mb) := let ⟨ta, pa, sa⟩ := ha.ex; let ⟨tb, pb, sb⟩ := hb.ex; ⟨_, pe_cmpR ho pa pb hm, sim_op lt hr sa sb⟩
theorem RT.rep {K : PySem.W.Frag} {G B H : Hp} {d : D} {v : V} (s : Ex B H) (r : RT K G B H d v) : Rep K H d v := by
  rcases r with r | ⟨xs, a, vs, e1, e2, h1, h2⟩
  · exact Rep.mono s r
  · subst e1
    simp only [Rep]
    exact ⟨a, vs, e2, h1, h2.mono s⟩
theorem rep_int {K H v i} (h : Rep K H (.int i) v) : v = .int i := by simpa only [Rep] using h
theorem rep_str {K H v i} (h : Rep K H (.str i) v) : v = .str i := by simpa only [Rep] using h
theorem rep_bl {K H v i} (h : Rep K H (.bl i) v) : v = .bl i := by simpa only [Rep] using h
/-! ints -/
def iiI (C : Int → Int → Bool) (g : Int → Int → Int) : D → D → Option D
  | .int i, .int j => if C i j then some (.int (g i j)) else none
  | _, _ => none
theorem sr_rI {K} {C : Int → Int → Prop} {Cb : Int → Int → Bool} {g : Int → Int → Int} (hC : ∀ i j, Cb i j = true → C i j) : SR2 RP K (rI C fun i j => .int (g i j)) (iiI Cb g) := by
  intro B H x y d e z s rx ry hf Q q
  cases d with
  | int i =>
    cases e with
    | int j =>
      have hx := rep_int (rx.rep s)
      have hy := rep_int (ry.rep s)
      subst hx hy
      have hf' : (if Cb i j = true then some (D.int (g i j)) else none) = some z := hf
      by_cases c : Cb i j = true
      · rw [if_pos c] at hf'
        cases hf'
        exact ⟨i, j, rfl, rfl, hC i j c, q _ B H (Xt.refl s) rfl⟩
      · rw [if_neg c] at hf'
        cases hf'
    | _ => cases hf
  | _ => cases hf
def yes2 : Int → Int → Bool := fun _ _ => true
theorem sr_rI0 {K} {g : Int → Int → Int} : SR2 RP K (rI0 fun i j => .int (g i j)) (iiI yes2 g) := by
  intro B H x y d e z s rx ry hf Q q
  obtain ⟨i, j, h1, h2, _, h4⟩ := sr_rI (K := K) (C := fun _ _ => True) (Cb := yes2) (g := g) (fun _ _ _ => trivial) B H x y d e z s rx ry hf Q q
  exact ⟨i, j, h1, h2, h4⟩
end Sm

set_option autoImplicit true
set_option Elab.async false
set_option linter.all false
set_option maxRecDepth 100000
set_option maxHeartbeats 4000000
namespace Sm
open PySem PySem.Spec PyProof.Rows L2

/-! ### + -/
def szB (n : Nat) : Bool := Nat.ble n 16777216
theorem szB_ok {n : Nat} (h : szB n = true) : n ≤ sizeLine := by
  rw [sizeLine_eq]
  exact Nat.le_of_ble_eq_true h
def addD : D → D → Option D
  | .int i, .int j => some (.int (i + j))
  | .str a, .str b => if szB (a.length + b.length) then some (.str (a ++ b)) else none
  | .tup xs, .tup ys => if szB (xs.length + ys.length) then some (.tup (xs ++ ys)) else none
  | _, _ => none
theorem Reps.length {K H} : ∀ {ds : List D} {vs : List V}, Reps K H ds vs → ds.length = vs.length
  | [], vs, h => by simp only [Reps] at h; subst h; rfl
  | d :: ds, vs, h => by
    simp only [Reps] at h
    obtain ⟨v, r, e, _, h2⟩ := h
    subst e
    rw [List.length_cons, List.length_cons, Reps.length h2]
theorem Reps.append {K H} : ∀ {ds es : List D} {vs us : List V}, Reps K H ds vs → Reps K H es us → Reps K H (ds ++ es) (vs ++ us)
  | [], es, vs, us, h, h2 => by simp only [Reps] at h; subst h; exact h2
  | d :: ds, es, vs, us, h, h2 => by
    simp only [Reps] at h
    obtain ⟨v, r, e, h1, h3⟩ := h
    subst e
    show Reps K H (d :: (ds ++ es)) (v :: (r ++ us))
    simp only [Reps]
    exact ⟨v, _, rfl, h1, Reps.append h3 h2⟩
theorem rep_tup {K H xs v} (h : Rep K H (.tup xs) v) : ∃ a vs, v = .ref a ∧ SqT K H a vs ∧ NoD K H a ∧ Reps K H xs vs := by simpa only [Rep] using h
theorem rep_lst {K H xs v} (h : Rep K H (.lst xs) v) : ∃ a vs, v = .ref a ∧ H a = some (.lst vs) ∧ Reps K H xs vs := by simpa only [Rep] using h
theorem mk_tup {K H xs a vs} (h : SqT K H a vs) (n : NoD K H a) (r : Reps K H xs vs) : Rep K H (.tup xs) (.ref a) := by simp only [Rep]; exact ⟨a, vs, rfl, h, n, r⟩
theorem mk_tupZ {K H xs a vs} {o : Obj} (h : H a = some (.frz o (.tup vs))) (n : o.dict = none) (r : Reps K H xs vs) : Rep K H (.tup xs) (.ref a) := mk_tup (.inl (.inr ⟨o, h⟩)) (.inl ⟨o, _, h, n⟩) r
theorem mk_lst {K H xs a vs} (h : H a = some (.lst vs)) (r : Reps K H xs vs) : Rep K H (.lst xs) (.ref a) := by simp only [Rep]; exact ⟨a, vs, rfl, h, r⟩
/-- a thing but a list stands in B itself -/
theorem RT.stay {K G B H d v} (h : RT K G B H d v) (n : ∀ xs, d ≠ .lst xs) : Rep K B d v := by
  rcases h with h | ⟨xs, _, _, e, _⟩
  · exact h
  · exact absurd e (n xs)
/-- a list: its object in H, its items in B -/
theorem RT.list {K G B H xs v} (s : Ex B H) (h : RT K G B H (.lst xs) v) : ∃ a vs, v = .ref a ∧ H a = some (.lst vs) ∧ Reps K B xs vs := by
  rcases h with h | ⟨ys, a, vs, e, e2, h1, h2⟩
  · obtain ⟨a, vs, e, h1, h2⟩ := rep_lst h
    exact ⟨a, vs, e, s _ _ h1, h2⟩
  · cases e
    exact ⟨a, vs, e2, h1, h2⟩
/-! ### new tuples, their objects known -/
theorem Inv.tupZ {X : Cx} {pins σ H} {s : Shared} {h' : Heap} {xs : List V} {its : List Value} {tk : Nat} (I : Inv X pins σ H s) (k : ∀ b u, s.heap.get? b = some u → h'.get? b = some u) (hz : xs.length ≤ sizeLine) (r : Vals xs its) :
    Inv X pins σ (upd H h'.objs.size (.frz { cls := .type "tuple", data := .seq its.toArray } (.tup xs))) { s with heap := h'.push { cls := .type "tuple", data := .seq its.toArray }, toks := tk } := by
  have I1 : Inv X pins σ H { s with heap := h', toks := tk } := I.kept k
  refine I1.laid (t' := tk) (fun b o e => Heap.get?_push_of_some _ e) (Nat.le_refl _) ?_
  exact ⟨Heap.get?_push_size _ rfl, hz, its, r, IsTup.new _ _⟩
def qTup (xs : List V) (H : Hp) (Q : VK) : Prop := ∀ p o, H p = none → Obj.dict o = none → Q (.ref p) (upd H p (.frz o (.tup xs)))
def tTupZ (t : TA) : TE := fun σ H Q => t σ H fun xs H1 => xs.length ≤ sizeLine ∧ qTup xs H1 Q
theorem pe_tupZ {X : Cx} {es t x1 pos} (h : PA X es t) : PE X (.Tuple es x1 pos) (tTupZ t) := by
  refine ⟨fun pins s σ H Q I hq => ?_⟩
  refine wpAny_Tuple_spliced (thn (h.run pos pins s σ H _ I hq) fun us s1 ⟨xs, H1, I1, r, z, q⟩ => ⟨by rw [← r.length]; exact z, ?_⟩)
  have hf : H1 s1.heap.objs.size = none := I1.hok.fresh (Nat.le_refl _)
  exact ⟨.ref s1.heap.objs.size, _, Inv.tupZ (tk := s1.toks) I1 (fun _ _ q => q) z r, rfl, q _ _ hf rfl⟩
def rCatZ (K : PySem.W.Frag) : R2 := fun x y H Q => ∃ a b xs ys, x = .ref a ∧ y = .ref b ∧ SqT K H a xs ∧ SqT K H b ys ∧ xs.length + ys.length ≤ sizeLine ∧
  (xs = [] → Q (.ref b) H) ∧ (xs ≠ [] → ys = [] → Q (.ref a) H) ∧ (xs ≠ [] → ys ≠ [] → qTup (xs ++ ys) H Q)
theorem op_catZ {X : Cx} : OpR X (binaryOp .Add) (rCatZ X.K) := by
  intro pins s σ H x y v u Q I rx ry h
  obtain ⟨a, b, xs, ys, rfl, rfl, ha, hb, hz, q0, q1, q2⟩ := h
  cases rx
  cases ry
  obtain ⟨its, r1, p1, _⟩ := I.tuple ha
  obtain ⟨its2, r2, p2, _⟩ := I.tuple hb
  by_cases hx : xs = []
  · subst hx
    cases r1
    exact cat_tup0 p1 p2 ⟨.ref b, H, I, rfl, q0 rfl⟩
  · refine HT.cat_tup p1 p2 (fun z => hx (r1.nil_iff.mp z)) (fun z => ⟨.ref a, H, I, rfl, q1 hx (r2.nil_iff.mp z)⟩) (fun z => ?_) (by rw [← r1.length, ← r2.length]; exact hz)
    exact ⟨.ref s.heap.objs.size, _, Inv.tupZ (tk := s.toks) I (fun _ _ q => q) (by rw [List.length_append]; exact hz) (r1.append r2), rfl, q2 hx (fun w => z (r2.nil_iff.mpr w)) _ _ (I.hok.fresh (Nat.le_refl _)) rfl⟩
def rSlZ (K : PySem.W.Frag) : V → Option Int → Option Int → Hp → VK → Prop := fun x lo hi H Q => ∃ a xs, x = .ref a ∧ SqT K H a xs ∧
  (HT.sIx xs.length 0 lo = 0 ∧ HT.sIx xs.length xs.length hi = xs.length → Q (.ref a) H) ∧ (¬ (HT.sIx xs.length 0 lo = 0 ∧ HT.sIx xs.length xs.length hi = xs.length) → qTup (cutV xs lo hi) H Q)
theorem sl_tupZ {X : Cx} : SlR X (rSlZ X.K) := by
  intro pins s σ H x v vl vu lo hi sl Q I rx hs pl pu h
  obtain ⟨a, xs, rfl, hx, q1, q2⟩ := h
  cases rx
  obtain ⟨its, r, ht, hz⟩ := I.tuple hx
  have hlen : its.toArray.size = xs.length := by rw [List.size_toArray]; exact r.length.symm
  by_cases hw : HT.sIx xs.length 0 lo = 0 ∧ HT.sIx xs.length xs.length hi = xs.length
  · refine ⟨"tuple", _, PyProof.Rows.slot_tuple_getitem.lookup, ht.typeIs, ?_⟩
    exact getItem_tuple_whole ht hs pl pu (by rw [hlen]; exact hw) ⟨.ref a, H, I, rfl, q1 hw⟩
  · refine ⟨"tuple", _, PyProof.Rows.slot_tuple_getitem.lookup, ht.typeIs, ?_⟩
    refine HT.getItem_tuple_cut ht hs pl pu (by rw [hlen]; exact hw) ?_ (by rw [hlen]; exact hz)
    rw [hlen]
    exact ⟨.ref s.heap.objs.size, _, Inv.tupZ (tk := s.toks) I (fun _ _ q => q) (Nat.le_trans (cutV_length xs lo hi) hz) ((r.drop (HT.sIx xs.length 0 lo)).take (HT.sIx xs.length xs.length hi - HT.sIx xs.length 0 lo)), rfl, q2 hw _ _ (I.hok.fresh (Nat.le_refl _)) rfl⟩
def rTupleZ (K : PySem.W.Frag) : List V → Hp → VK → Prop := fun xs H Q => ∃ p ys, xs = [.ref p] ∧ ((SqL K H p ys ∧ qTup ys H Q) ∨ (SqT K H p ys ∧ Q (.ref p) H))
theorem call_tupleZ {X : Cx} : CallR X (.type "tuple") (rTupleZ X.K) := by
  intro pins s σ H xs us Q I r h
  obtain ⟨p, ys, rfl, h⟩ := h
  obtain ⟨u, rfl, rx⟩ := vals1 r
  cases rx
  rcases h with ⟨hq, q⟩ | ⟨hq, q⟩
  · obtain ⟨its, r', pl, hz⟩ := I.list hq
    have hlen := r'.length
    refine call_tuple_list pl.isList (fun h' kp => ?_) (by simp only [List.size_toArray] <;> omega)
    have I1 : Inv X pins σ H { s with heap := h' } := I.kept (t' := s.toks) kp
    exact ⟨.ref h'.objs.size, _, Inv.tupZ (tk := s.toks) I kp hz r', rfl, q _ _ (I1.hok.fresh (Nat.le_refl _)) rfl⟩
  · obtain ⟨its, r', pl, hz⟩ := I.tuple hq
    exact call_tuple_same pl ⟨.ref p, H, I, rfl, q⟩
theorem qTup.ok {K : PySem.W.Frag} {B H : Hp} {xs : List D} {vs : List V} {Q : VK} (s : Ex B H) (r : Reps K B xs vs) (q : ∀ v B' H', Xt B H B' H' → Rep K B' (.tup xs) v → Q v H') : qTup vs H Q := fun p o hp hd =>
  q _ _ _ (Xt.new s hp) (mk_tupZ upd_same hd (r.mono (Ex.new (s.free hp))))

def rAddD (K : PySem.W.Frag) : R2 := fun x y H Q => (rI0 fun i j => .int (i + j)) x y H Q ∨ ((fun x y H Q => ∃ i j, x = .str i ∧ y = .str j ∧ i.length + j.length ≤ sizeLine ∧ Q (.str (i ++ j)) H) x y H Q ∨ rCatZ K x y H Q)
theorem op_addD {X : Cx} : OpR X (binaryOp .Add) (rAddD X.K) := op_add.or (op_add_str.or op_catZ)
theorem sr_addD {K} : SR2 RP K (rAddD K) addD := by
  intro B H x y d e z s rx ry hf Q q
  cases d with
  | int i =>
    cases e with
    | int j =>
      cases rep_int (rx.rep s)
      cases rep_int (ry.rep s)
      cases hf
      exact .inl ⟨i, j, rfl, rfl, q _ B H (Xt.refl s) rfl⟩
    | _ => cases hf
  | str i =>
    cases e with
    | str j =>
      cases rep_str (rx.rep s)
      cases rep_str (ry.rep s)
      have hf' : (if szB (i.length + j.length) = true then some (D.str (i ++ j)) else none) = some z := hf
      split at hf'
      · rename_i c
        cases hf'
        exact .inr (.inl ⟨i, j, rfl, rfl, szB_ok c, q _ B H (Xt.refl s) rfl⟩)
      · cases hf'
    | _ => cases hf
  | tup xs =>
    cases e with
    | tup ys =>
      obtain ⟨a, vs, e1, h1, n1, r1⟩ := rep_tup (rx.stay fun _ z => nomatch z)
      obtain ⟨b, us, e2, h2, n2, r2⟩ := rep_tup (ry.stay fun _ z => nomatch z)
      subst e1 e2
      have hf' : (if szB (xs.length + ys.length) = true then some (D.tup (xs ++ ys)) else none) = some z := hf
      split at hf'
      · rename_i c
        cases hf'
        have r12 := r1.append r2
        refine .inr (.inr ⟨a, b, vs, us, rfl, rfl, ?_, ?_, by rw [← r1.length, ← r2.length]; exact szB_ok c, fun z => ?_, fun z1 z2 => ?_, fun z1 z2 => qTup.ok s r12 q⟩)
        · rcases h1 with h1 | h1
          · exact .inl (s.rd h1)
          · exact .inr h1
        · rcases h2 with h2 | h2
          · exact .inl (s.rd h2)
          · exact .inr h2
        · subst z
          exact q _ B H (Xt.refl s) (mk_tup h2 n2 r12)
        · subst z2
          rw [List.append_nil] at r12
          exact q _ B H (Xt.refl s) (mk_tup h1 n1 r12)
      · cases hf'
    | _ => cases hf
  | _ => cases hf
/-- lists: a new one -/
def addL : D → D → Option (List D)
  | .lst xs, .lst ys => if szB (xs.length + ys.length) then some (xs ++ ys) else none
  | _, _ => none
theorem sr_addL {K} : SR2 RF K rCat addL := by
  intro B H x y d e z s rx ry hf Q q
  cases d with
  | lst xs =>
    cases e with
    | lst ys =>
      obtain ⟨a, vs, e1, h1, r1⟩ := rx.list s
      obtain ⟨b, us, e2, h2, r2⟩ := ry.list s
      subst e1 e2
      have hf' : (if szB (xs.length + ys.length) = true then some (xs ++ ys) else none) = some z := hf
      split at hf'
      · rename_i c
        cases hf'
        refine ⟨a, b, vs, us, rfl, rfl, h1, h2, by rw [← r1.length, ← r2.length]; exact szB_ok c, fun p hp => ?_⟩
        exact q _ _ _ (Xt.out s hp) ⟨p, _, rfl, hp, s.free hp, upd_same, r1.append r2⟩
      · cases hf'
    | _ => cases hf
  | _ => cases hf

/-! ### other arithmetic -/
def bits (i : Int) : Nat := i.natAbs.log2
def mulB (i j : Int) : Bool := Nat.ble (bits i + bits j) 900000
def divB (_ j : Int) : Bool := decide (0 < j) && Nat.ble (bits j) 8000
def modB (_ j : Int) : Bool := decide (0 < j)
def powB (i j : Int) : Bool := decide (0 ≤ j) && decide (j ≤ 1000000) && decide (i.natAbs < 2 ^ 64)
theorem mulB_ok (i j : Int) (h : mulB i j = true) : CMulW i j := Nat.lt_of_le_of_lt (Nat.le_of_ble_eq_true h) (by decide)
theorem divB_ok (i j : Int) (h : divB i j = true) : CDivW i j := by
  have h2 := Bool.and_eq_true_iff.mp h
  exact ⟨of_decide_eq_true h2.1, Nat.lt_of_le_of_lt (Nat.le_of_ble_eq_true h2.2) (by decide)⟩
theorem modB_ok (i j : Int) (h : modB i j = true) : (fun _ j => 0 < j) i j := of_decide_eq_true h
theorem powB_ok (i j : Int) (h : powB i j = true) : CPow i j := by
  have h2 := Bool.and_eq_true_iff.mp h
  have h3 := Bool.and_eq_true_iff.mp h2.1
  exact ⟨of_decide_eq_true h3.1, of_decide_eq_true h3.2, of_decide_eq_true h2.2⟩
abbrev subD : D → D → Option D := iiI yes2 fun i j => i - j
abbrev mulD : D → D → Option D := iiI mulB fun i j => i * j
abbrev fdivD : D → D → Option D := iiI divB fun i j => i / j
abbrev modD : D → D → Option D := iiI modB fun i j => i % j
abbrev powD : D → D → Option D := iiI powB fun i j => i ^ j.toNat
section
variable {X : Cx} {W : WX} {a b : Expr} {ma mb : En → Res D} {pos : Pos}
theorem se_add (ha : SE X W RT a ma) (hb : SE X W RT b mb) : SE X W RP (.BinOp a .Add b pos) (mOp addD ma mb) := se_op late_P op_addD sr_addD ha hb
theorem se_addL (ha : SE X W RT a ma) (hb : SE X W RT b mb) : SE X W RF (.BinOp a .Add b pos) (mOp addL ma mb) := se_op late_F op_cat sr_addL ha hb
theorem se_sub (ha : SE X W RT a ma) (hb : SE X W RT b mb) : SE X W RP (.BinOp a .Sub b pos) (mOp subD ma mb) := se_op late_P op_sub sr_rI0 ha hb
theorem se_mul (ha : SE X W RT a ma) (hb : SE X W RT b mb) : SE X W RP (.BinOp a .Mult b pos) (mOp mulD ma mb) := se_op late_P op_mulW (sr_rI mulB_ok) ha hb
theorem se_fdiv (ha : SE X W RT a ma) (hb : SE X W RT b mb) : SE X W RP (.BinOp a .FloorDiv b pos) (mOp fdivD ma mb) := se_op late_P op_fdivW (sr_rI divB_ok) ha hb
theorem se_mod (ha : SE X W RT a ma) (hb : SE X W RT b mb) : SE X W RP (.BinOp a .Mod b pos) (mOp modD ma mb) := se_op late_P op_mod (sr_rI modB_ok) ha hb
theorem se_pow (ha : SE X W RT a ma) (hb : SE X W RT b mb) : SE X W RP (.BinOp a .Pow b pos) (mOp powD ma mb) := se_op late_P op_pow (sr_rI powB_ok) ha hb
end
/-! unary -/
def mUn (f : D → Option D) (ma : En → Res D) : En → Res D := mB ma fun a => fun _ => ofO (f a)
def negD : D → Option D
  | .int i => some (.int (-i))
  | _ => none
theorem se_neg {X : Cx} {W : WX} {a : Expr} {ma : En → Res D} {pos : Pos} (ha : SE X W RT a ma) : SE X W RP (.UnaryOp .USub a pos) (mUn negD ma) := by
  obtain ⟨t, p, h⟩ := ha.ex
  refine ⟨_, pe_un un_neg p, ?_⟩
  refine Sim.bind (R := RT) (S := RP) (u := fun v σ H Q => rU (fun i => .int (-i)) v H Q) h fun B0 H0 env σ B H a v B1 H1 I x r => ?_
  cases a with
  | int i =>
    intro Q q
    cases rep_int (r.rep I.xs)
    exact ⟨i, rfl, q _ B1 H1 x rfl⟩
  | _ => trivial

/-! ### comparisons -/
def iiB (g : Int → Int → Bool) : D → D → Option D
  | .int i, .int j => some (.bl (g i j))
  | _, _ => none
theorem sr_iiB {K} {g : Int → Int → Bool} : SR2 RP K (rI0 fun i j => .bl (g i j)) (iiB g) := by
  intro B H x y d e z s rx ry hf Q q
  cases d with
  | int i =>
    cases e with
    | int j =>
      cases rep_int (rx.rep s)
      cases rep_int (ry.rep s)
      cases hf
      exact ⟨i, j, rfl, rfl, q _ B H (Xt.refl s) rfl⟩
    | _ => cases hf
  | _ => cases hf
abbrev ltD := iiB fun i j => decide (i < j)
abbrev leD := iiB fun i j => decide (i ≤ j)
abbrev gtD := iiB fun i j => decide (j < i)
abbrev geD := iiB fun i j => decide (j ≤ i)
/-! == of data -/
mutual
def dat : D → Option PyData
  | .non => some .none
  | .bl b => some (.bool b)
  | .int i => some (.int i)
  | .str x => some (.str x)
  | .tup xs => (dats xs).map .tuple
  | .lst xs => (dats xs).map .list
  | .scr ns => some (.list (ns.map .int))
  | .obj _ _ _ => none
  | .dct _ _ => none
  | .dtt _ _ => none
  | .err _ _ _ => none
def dats : List D → Option (List PyData)
  | [] => some []
  | d :: ds => match dat d, dats ds with
    | some p, some ps => some (p :: ps)
    | _, _ => none
end
theorem dpInts {K H} : ∀ ns : List Int, DpAll K H (ns.map V.int) (ns.map PyData.int)
  | [] => .nil
  | n :: ns => .cons (.int n) (dpInts ns)
mutual
theorem dp_of {K : PySem.W.Frag} {H : Hp} : ∀ {d : D} {v : V} {p : PyData}, Rep K H d v → dat d = some p → Dp K H v p
  | .non, v, p, r, h => by simp only [Rep] at r; subst r; simp only [dat] at h; cases h; exact .non
  | .bl b, v, p, r, h => by simp only [Rep] at r; subst r; simp only [dat] at h; cases h; exact .bl b
  | .int b, v, p, r, h => by simp only [Rep] at r; subst r; simp only [dat] at h; cases h; exact .int b
  | .str b, v, p, r, h => by simp only [Rep] at r; subst r; simp only [dat] at h; cases h; exact .str b
  | .tup xs, v, p, r, h => by
    simp only [Rep] at r
    obtain ⟨a, vs, e, h1, _, h2⟩ := r
    subst e
    simp only [dat] at h
    cases e2 : dats xs with
    | none => rw [e2] at h; cases h
    | some ps =>
      rw [e2] at h
      cases h
      exact .tup h1 (dps_of h2 e2)
  | .lst xs, v, p, r, h => by
    simp only [Rep] at r
    obtain ⟨a, vs, e, h1, h2⟩ := r
    subst e
    simp only [dat] at h
    cases e2 : dats xs with
    | none => rw [e2] at h; cases h
    | some ps =>
      rw [e2] at h
      cases h
      exact .lst (SqL.of h1) (dps_of h2 e2)
  | .scr ns, v, p, r, h => by
    simp only [Rep] at r
    obtain ⟨a, e, h1⟩ := r
    subst e
    simp only [dat] at h
    cases h
    exact .lst h1 (dpInts ns)
  | .obj _ _ _, _, _, _, h => by simp only [dat] at h; cases h
  | .dct _ _, _, _, _, h => by simp only [dat] at h; cases h
  | .dtt _ _, _, _, _, h => by simp only [dat] at h; cases h
  | .err _ _ _, _, _, _, h => by simp only [dat] at h; cases h
theorem dps_of {K : PySem.W.Frag} {H : Hp} : ∀ {ds : List D} {vs : List V} {ps : List PyData}, Reps K H ds vs → dats ds = some ps → DpAll K H vs ps
  | [], vs, ps, r, h => by simp only [Reps] at r; subst r; simp only [dats] at h; cases h; exact .nil
  | d :: ds, vs, ps, r, h => by
    simp only [Reps] at r
    obtain ⟨v, q, e, h1, h2⟩ := r
    subst e
    simp only [dats] at h
    cases e1 : dat d with
    | none => rw [e1] at h; cases h
    | some p =>
      cases e2 : dats ds with
      | none => rw [e1, e2] at h; cases h
      | some qs =>
        rw [e1, e2] at h
        cases h
        exact .cons (dp_of h1 e1) (dps_of h2 e2)
end
/-- equality, as the program's own == has it; none where it is not data -/
def eqB (d e : D) : Option Bool := match dat d, dat e with
  | some p, some q => if SeqAt.shaped p && SeqAt.shaped q then some (PyData.eqv p q) else none
  | _, _ => none
def eqD (d e : D) : Option D := (eqB d e).map .bl
def neD (d e : D) : Option D := (eqB d e).map fun b => .bl (!b)
theorem eqB_inv {d e : D} {b : Bool} (h : eqB d e = some b) : ∃ p q, dat d = some p ∧ dat e = some q ∧ SeqAt.shaped p = true ∧ SeqAt.shaped q = true ∧ b = PyData.eqv p q := by
  unfold eqB at h
  cases e1 : dat d with
  | none => rw [e1] at h; cases h
  | some p =>
    cases e2 : dat e with
    | none => rw [e1, e2] at h; cases h
    | some q =>
      rw [e1, e2] at h
      have h' : (if (SeqAt.shaped p && SeqAt.shaped q) = true then some (PyData.eqv p q) else none) = some b := h
      split at h'
      · rename_i c
        cases h'
        exact ⟨p, q, rfl, rfl, (Bool.and_eq_true_iff.mp c).1, (Bool.and_eq_true_iff.mp c).2, rfl⟩
      · cases h'
theorem sr_eqD {K} : SR2 RP K (rEqD K) eqD := by
  intro B H x y d e z s rx ry hf Q q
  unfold eqD at hf
  cases h : eqB d e with
  | none => rw [h] at hf; cases hf
  | some b =>
    rw [h] at hf
    cases hf
    obtain ⟨p1, p2, h1, h2, s1, s2, rfl⟩ := eqB_inv h
    exact ⟨p1, p2, dp_of (rx.rep s) h1, dp_of (ry.rep s) h2, s1, s2, q _ B H (Xt.refl s) rfl⟩
theorem sr_neD {K} : SR2 RP K (rNeD K) neD := by
  intro B H x y d e z s rx ry hf Q q
  unfold neD at hf
  cases h : eqB d e with
  | none => rw [h] at hf; cases hf
  | some b =>
    rw [h] at hf
    cases hf
    obtain ⟨p1, p2, h1, h2, s1, s2, rfl⟩ := eqB_inv h
    exact ⟨p1, p2, dp_of (rx.rep s) h1, dp_of (ry.rep s) h2, s1, s2, q _ B H (Xt.refl s) rfl⟩
/-! in -/
def inB (d e : D) : Option Bool := match dat d, dat e with
  | some p, some (.list qs) => if SeqAt.shaped p && SeqAt.shaped (.list qs) then some (qs.any fun z => PyData.eqv z p) else none
  | _, _ => none
theorem inB_inv {d e : D} {b : Bool} (h : inB d e = some b) : ∃ p qs, dat d = some p ∧ dat e = some (.list qs) ∧ SeqAt.shaped p = true ∧ SeqAt.shaped (.list qs) = true ∧ b = qs.any fun z => PyData.eqv z p := by
  unfold inB at h
  cases e1 : dat d with
  | none => rw [e1] at h; cases h
  | some p =>
    cases e2 : dat e with
    | none => rw [e1, e2] at h; cases h
    | some q =>
      rw [e1, e2] at h
      cases q with
      | list qs =>
        have h' : (if (SeqAt.shaped p && SeqAt.shaped (.list qs)) = true then some (qs.any fun z => PyData.eqv z p) else none) = some b := h
        split at h'
        · rename_i c
          cases h'
          exact ⟨p, qs, rfl, rfl, (Bool.and_eq_true_iff.mp c).1, (Bool.and_eq_true_iff.mp c).2, rfl⟩
        · cases h'
      | _ => cases h
end Sm

set_option autoImplicit true
set_option Elab.async false
set_option linter.all false
set_option maxRecDepth 100000
set_option maxHeartbeats 4000000
namespace Sm
open PySem PySem.Spec PyProof.Rows L2

/-! ### in -/
def inD (d e : D) : Option D := (inB d e).map .bl
def niD (d e : D) : Option D := (inB d e).map fun b => .bl (!b)
theorem sr_inD {K} : SR2 RP K (rInD K) inD := by
  intro B H x y d e z s rx ry hf Q q
  unfold inD at hf
  cases h : inB d e with
  | none => rw [h] at hf; cases hf
  | some b =>
    rw [h] at hf
    cases hf
    obtain ⟨p1, p2, h1, h2, s1, s2, rfl⟩ := inB_inv h
    exact ⟨p1, p2, dp_of (rx.rep s) h1, dp_of (ry.rep s) h2, s1, s2, q _ B H (Xt.refl s) rfl⟩
theorem sr_niD {K} : SR2 RP K (rNotInD K) niD := by
  intro B H x y d e z s rx ry hf Q q
  unfold niD at hf
  cases h : inB d e with
  | none => rw [h] at hf; cases hf
  | some b =>
    rw [h] at hf
    cases hf
    obtain ⟨p1, p2, h1, h2, s1, s2, rfl⟩ := inB_inv h
    exact ⟨p1, p2, dp_of (rx.rep s) h1, dp_of (ry.rep s) h2, s1, s2, q _ B H (Xt.refl s) rfl⟩
/-! a text in a text (one sign, a part); flat things in a tuple -/
def inTxt (i j : Str) : Bool := !(Builtin.Str.occurrences j i 0 j.length 1).isEmpty
def fv : D → Option V
  | .non => some .non
  | .bl b => some (.bl b)
  | .int i => some (.int i)
  | .str x => some (.str x)
  | _ => none
def fvs : List D → Option (List V)
  | [] => some []
  | d :: ds => match fv d, fvs ds with
    | some v, some vs => some (v :: vs)
    | _, _ => none
theorem fv_rep {K H d v w} (h : fv d = some w) (r : Rep K H d v) : v = w ∧ flatV v = true := by
  cases d with
  | non => simp only [Rep] at r; subst r; cases h; exact ⟨rfl, rfl⟩
  | bl b => simp only [Rep] at r; subst r; cases h; exact ⟨rfl, rfl⟩
  | int b => simp only [Rep] at r; subst r; cases h; exact ⟨rfl, rfl⟩
  | str b => simp only [Rep] at r; subst r; cases h; exact ⟨rfl, rfl⟩
  | _ => cases h
theorem fvs_reps {K H} : ∀ {ds : List D} {vs ws : List V}, fvs ds = some ws → Reps K H ds vs → vs = ws ∧ vs.all flatV = true
  | [], vs, ws, h, r => by simp only [Reps] at r; subst r; cases h; exact ⟨rfl, rfl⟩
  | d :: ds, vs, ws, h, r => by
    simp only [Reps] at r
    obtain ⟨v, q, e, h1, h2⟩ := r
    subst e
    cases e1 : fv d with
    | none => simp [fvs, e1] at h
    | some x =>
      cases e2 : fvs ds with
      | none => simp [fvs, e1, e2] at h
      | some xs =>
        simp [fvs, e1, e2] at h
        subst h
        obtain ⟨a1, a2⟩ := fv_rep e1 h1
        obtain ⟨b1, b2⟩ := fvs_reps e2 h2
        subst a1 b1
        exact ⟨rfl, by rw [List.all_cons, a2, b2]; rfl⟩
def inFL (d : D) (xs : List D) : Option Bool := match fv d, fvs xs with
  | some v, some vs => some (inV v vs)
  | _, _ => none
/-- in a tuple or a list of flat things, or a text in a text -/
def inFB : D → D → Option Bool
  | .str i, .str j => some (inTxt i j)
  | d, .tup xs => inFL d xs
  | d, .lst xs => inFL d xs
  | _, _ => none
def inF (d e : D) : Option D := (inFB d e).map .bl
def niF (d e : D) : Option D := (inFB d e).map fun b => .bl (!b)
def rInF (K : PySem.W.Frag) : R2 := fun x y H Q => (fun x y H Q => ∃ i j, x = .str i ∧ y = .str j ∧ Q (.bl (!(Builtin.Str.occurrences j i 0 j.length 1).isEmpty)) H) x y H Q ∨ rIn K false x y H Q
def rNiF (K : PySem.W.Frag) : R2 := fun x y H Q => (fun x y H Q => ∃ i j, x = .str i ∧ y = .str j ∧ Q (.bl (!(!(Builtin.Str.occurrences j i 0 j.length 1).isEmpty))) H) x y H Q ∨ rIn K true x y H Q
theorem op_inF {X : Cx} : OpR X (compareOp .In) (rInF X.K) := op_in_str.or op_in_seq
theorem op_niF {X : Cx} : OpR X (compareOp .NotIn) (rNiF X.K) := op_notin_str.or op_notIn_seq
theorem inFB_inv {K B H x y d e b} (s : Ex B H) (rx : RT K H B H d x) (ry : RT K H B H e y) (h : inFB d e = some b) :
    (∃ i j, x = .str i ∧ y = .str j ∧ b = inTxt i j) ∨ (∃ p xs, y = .ref p ∧ (SqL K H p xs ∨ SqT K H p xs) ∧ flatV x = true ∧ xs.all flatV = true ∧ b = inV x xs) := by
  have rx' := rx.rep s
  have ry' := ry.rep s
  have fin : ∀ {p xs us}, inFL d xs = some b → y = .ref p → (SqL K H p us ∨ SqT K H p us) → Reps K H xs us → (∃ p xs, y = .ref p ∧ (SqL K H p xs ∨ SqT K H p xs) ∧ flatV x = true ∧ xs.all flatV = true ∧ b = inV x xs) := by
    intro p xs us h ey hs hr
    unfold inFL at h
    cases e1 : fv d with
    | none => rw [e1] at h; cases h
    | some v =>
      cases e2 : fvs xs with
      | none => rw [e1, e2] at h; cases h
      | some vs =>
        rw [e1, e2] at h
        cases h
        obtain ⟨a1, a2⟩ := fv_rep e1 rx'
        obtain ⟨b1, b2⟩ := fvs_reps e2 hr
        subst a1 b1
        exact ⟨p, us, ey, hs, a2, b2, rfl⟩
  cases e with
  | str j =>
    cases d with
    | str i =>
      cases h
      exact .inl ⟨i, j, rep_str rx', rep_str ry', rfl⟩
    | _ => cases h
  | tup xs =>
    obtain ⟨a, us, q1, q2, _, q3⟩ := rep_tup ry'
    exact .inr (fin (by cases d <;> exact h) q1 (.inr q2) q3)
  | lst xs =>
    obtain ⟨a, us, q1, q2, q3⟩ := rep_lst ry'
    exact .inr (fin (by cases d <;> exact h) q1 (.inl (SqL.of q2)) q3)
  | _ => cases d <;> cases h
theorem sr_inF {K} : SR2 RP K (rInF K) inF := by
  intro B H x y d e z s rx ry hf Q q
  unfold inF at hf
  cases h : inFB d e with
  | none => rw [h] at hf; cases hf
  | some b =>
    rw [h] at hf
    cases hf
    rcases inFB_inv s rx ry h with ⟨i, j, rfl, rfl, rfl⟩ | ⟨p, xs, rfl, h1, h2, h3, rfl⟩
    · exact .inl ⟨i, j, rfl, rfl, q _ B H (Xt.refl s) rfl⟩
    · exact .inr ⟨p, xs, rfl, h1, h2, h3, q _ B H (Xt.refl s) rfl⟩
theorem sr_niF {K} : SR2 RP K (rNiF K) niF := by
  intro B H x y d e z s rx ry hf Q q
  unfold niF at hf
  cases h : inFB d e with
  | none => rw [h] at hf; cases hf
  | some b =>
    rw [h] at hf
    cases hf
    rcases inFB_inv s rx ry h with ⟨i, j, rfl, rfl, rfl⟩ | ⟨p, xs, rfl, h1, h2, h3, rfl⟩
    · exact .inl ⟨i, j, rfl, rfl, q _ B H (Xt.refl s) rfl⟩
    · exact .inr ⟨p, xs, rfl, h1, h2, h3, q _ B H (Xt.refl s) rfl⟩
/-! is None -/
def isNB : D → Bool
  | .non => true
  | _ => false
def isN (d : D) : D → Option D
  | .non => some (.bl (isNB d))
  | _ => none
def notN (d : D) : D → Option D
  | .non => some (.bl (!isNB d))
  | _ => none
theorem rep_isN {K H d v} (r : Rep K H d v) : decide (v = .non) = isNB d := by
  cases d with
  | non => simp only [Rep] at r; subst r; rfl
  | bl b => simp only [Rep] at r; subst r; rfl
  | int b => simp only [Rep] at r; subst r; rfl
  | str b => simp only [Rep] at r; subst r; rfl
  | tup xs => simp only [Rep] at r; obtain ⟨a, _, e, _⟩ := r; subst e; rfl
  | lst xs => simp only [Rep] at r; obtain ⟨a, _, e, _⟩ := r; subst e; rfl
  | scr xs => simp only [Rep] at r; obtain ⟨a, e, _⟩ := r; subst e; rfl
  | obj c fn xs => simp only [Rep] at r; obtain ⟨a, _, _, e, _⟩ := r; subst e; rfl
  | dct ks xs => simp only [Rep] at r; obtain ⟨a, _, e, _⟩ := r; subst e; rfl
  | dtt ks xs => simp only [Rep] at r; obtain ⟨a, _, e, _⟩ := r; subst e; rfl
  | err c fn xs => simp only [Rep] at r; obtain ⟨a, _, e, _⟩ := r; subst e; rfl
theorem sr_isN {K} : SR2 RP K (fun x y H Q => y = .non ∧ Q (.bl (decide (x = .non))) H) isN := by
  intro B H x y d e z s rx ry hf Q q
  cases e with
  | non =>
    have ey : y = .non := by simpa only [Rep] using ry.rep s
    cases hf
    rw [rep_isN (rx.rep s)]
    exact ⟨ey, q _ B H (Xt.refl s) rfl⟩
  | _ => cases hf
theorem sr_notN {K} : SR2 RP K (fun x y H Q => y = .non ∧ Q (.bl (!decide (x = .non))) H) notN := by
  intro B H x y d e z s rx ry hf Q q
  cases e with
  | non =>
    have ey : y = .non := by simpa only [Rep] using ry.rep s
    cases hf
    rw [rep_isN (rx.rep s)]
    exact ⟨ey, q _ B H (Xt.refl s) rfl⟩
  | _ => cases hf
/-! texts in order -/
def ltS : D → D → Option D
  | .str i, .str j => some (.bl (decide (i.cps.toList < j.cps.toList)))
  | _, _ => none
theorem sr_ltS {K} : SR2 RP K (fun x y H Q => ∃ i j, x = .str i ∧ y = .str j ∧ Q (.bl (decide (i.cps.toList < j.cps.toList))) H) ltS := by
  intro B H x y d e z s rx ry hf Q q
  cases d with
  | str i =>
    cases e with
    | str j =>
      cases rep_str (rx.rep s)
      cases rep_str (ry.rep s)
      cases hf
      exact ⟨i, j, rfl, rfl, q _ B H (Xt.refl s) rfl⟩
    | _ => cases hf
  | _ => cases hf

/-! ### tests -/
def asB : D → Res Bool
  | .bl b => .ok b
  | _ => .stuck
def mTest (m : En → Res D) : En → Res Bool := mB m fun d _ => asB d
theorem sim_test {K W t m} (h : Sim RT K W t m) : Sim RB K W (tTest t) (mTest m) := by
  refine Sim.bind (R := RT) (S := RB) (u := fun v σ H Q => ∃ k, v = V.bl k ∧ Q k H) h fun B0 H0 env σ B H a v B1 H1 I x r => ?_
  cases a with
  | bl b =>
    intro Q q
    cases rep_bl (r.rep I.xs)
    exact ⟨b, rfl, q _ B1 H1 x rfl⟩
  | _ => trivial
/-- truth -/
def truB : D → Res Bool
  | .non => .ok false
  | .bl b => .ok b
  | .int i => .ok (i != 0)
  | .str y => if szB y.length then .ok ((y.length : Int) != 0) else .stuck
  | .tup xs => .ok (!xs.isEmpty)
  | .lst xs => .ok (!xs.isEmpty)
  | _ => .stuck
theorem reps_empty {K H} {ds : List D} {vs : List V} (r : Reps K H ds vs) : vs.isEmpty = ds.isEmpty := by
  have h := r.length
  cases ds <;> cases vs <;> first | rfl | (simp at h)
theorem tru_of {K H d v b} (h : truB d = .ok b) (r : Rep K H d v) : TruV K v H b := by
  cases d with
  | non => simp only [Rep] at r; subst r; cases h; rfl
  | bl x => simp only [Rep] at r; subst r; cases h; rfl
  | int x => simp only [Rep] at r; subst r; cases h; rfl
  | str x =>
    simp only [Rep] at r; subst r
    have h' : (if szB x.length = true then (Res.ok ((x.length : Int) != 0) : Res Bool) else .stuck) = .ok b := h
    split at h'
    · rename_i c; cases h'; exact ⟨szB_ok c, rfl⟩
    · cases h'
  | tup xs =>
    obtain ⟨a, vs, e, h1, _, h2⟩ := rep_tup r
    subst e
    cases h
    exact .inr (.inl ⟨vs, h1, by rw [reps_empty h2]⟩)
  | lst xs =>
    obtain ⟨a, vs, e, h1, h2⟩ := rep_lst r
    subst e
    cases h
    exact .inl ⟨vs, SqL.of h1, by rw [reps_empty h2]⟩
  | _ => cases h
def mTru (m : En → Res D) : En → Res Bool := mB m fun d _ => truB d
theorem sim_tru {K W t m} (h : Sim RT K W t m) : Sim RB K W (fun σ H Q => t σ H fun x H' => ∃ k, TruV K x H' k ∧ Q k H') (mTru m) := by
  refine Sim.bind (R := RT) (S := RB) (u := fun v σ H Q => ∃ k, TruV K v H k ∧ Q k H) h fun B0 H0 env σ B H a v B1 H1 I x r => ?_
  cases e : truB a with
  | stuck => trivial
  | exc c fn fv => cases a <;> first | (cases e; done) | (simp [truB] at e; done) | (unfold truB at e; dsimp only at e; split at e <;> cases e)
  | ok b => exact fun Q q => ⟨b, tru_of e (r.rep I.xs), q _ B1 H1 x rfl⟩
section
variable {X : Cx} {W : WX} {a b c e : Expr} {ma mb mc m : En → Res D} {pos : Pos} {rest : List Expr} {mt mu : En → Res Bool}
theorem st_val (h : SE X W RT e m) (he : ∀ whole, isTrue e X.env whole = (do let v ← whole; standAt e.pos; holding [v] (truthy v)) := by intro _; rfl) : ST X W e (mTest m) := let ⟨t, p, s⟩ := h.ex; ⟨_, pt_val p he, sim_test s⟩
theorem st_tru (h : SE X W RT e m) (he : ∀ whole, isTrue e X.env whole = (do let v ← whole; standAt e.pos; holding [v] (truthy v)) := by intro _; rfl) : ST X W e (mTru m) := let ⟨t, p, s⟩ := h.ex; ⟨_, pt_truth p he, sim_tru s⟩
theorem st_cmp {op : CmpOp} {r : R2} {f : D → D → Option D} (ho : OpR X (compareOp op) r) (hr : SR2 RP X.K r f) (ha : SE X W RT a ma) (hb : SE X W RT b mb) (hm : behindInMarks op b = false) :
    ST X W (.Compare a [op] [b] pos) (mTest (mOp f ma mb)) := let ⟨ta, pa, sa⟩ := ha.ex; let ⟨tb, pb, sb⟩ := hb.ex; ⟨_, pt_cmpR ho pa pb hm, sim_test (Sim.pt (sim_op late_P hr sa sb))⟩
/-- and, or: the tail as one -/
structure SW (X : Cx) (W : WX) (e : Expr) (m : En → Res Bool) : Prop where
  ex : ∃ t, PW X e t ∧ Sim RB X.K W t m
theorem SW.st (h : SW X W e mt) : ST X W e mt := let ⟨t, p, s⟩ := h.ex; ⟨t, p.pt, s⟩
theorem sw_and1 (h : ST X W a mt) : SW X W (.BoolOp .And [a] pos) mt := let ⟨t, p, s⟩ := h.ex; ⟨t, pw_and1 p, s⟩
theorem sw_or1 (h : ST X W a mt) : SW X W (.BoolOp .Or [a] pos) mt := let ⟨t, p, s⟩ := h.ex; ⟨t, pw_or1 p, s⟩
def mAnd (mt mu : En → Res Bool) : En → Res Bool := mB mt fun c env => if c then mu env else .ok false
def mOr (mt mu : En → Res Bool) : En → Res Bool := mB mt fun c env => if c then .ok true else mu env
def mNot (mt : En → Res Bool) : En → Res Bool := mB mt fun c _ => .ok (!c)
theorem sim_and {K : PySem.W.Frag} {t u : TT} (h : Sim RB K W t mt) (k : Sim RB K W u mu) : Sim RB K W (tAnd t u) (mAnd mt mu) := by
  refine Sim.bind (R := RB) (S := RB) (u := fun c σ H Q => if c = true then u σ H Q else Q false H) h fun B0 H0 env σ B H a v B1 H1 I x r => ?_
  cases r
  cases a with
  | false => exact fun Q q => q _ B1 H1 x rfl
  | true =>
    exact k.post late_B I x
theorem sim_or {K : PySem.W.Frag} {t u : TT} (h : Sim RB K W t mt) (k : Sim RB K W u mu) : Sim RB K W (tOr t u) (mOr mt mu) := by
  refine Sim.bind (R := RB) (S := RB) (u := fun c σ H Q => if c = true then Q true H else u σ H Q) h fun B0 H0 env σ B H a v B1 H1 I x r => ?_
  cases r
  cases a with
  | true => exact fun Q q => q _ B1 H1 x rfl
  | false =>
    exact k.post late_B I x
theorem sw_and (h : ST X W a mt) (k : SW X W (.BoolOp .And (b :: rest) pos) mu) : SW X W (.BoolOp .And (a :: b :: rest) pos) (mAnd mt mu) := let ⟨_, p, s⟩ := h.ex; let ⟨_, q, r⟩ := k.ex; ⟨_, pw_and p q, sim_and s r⟩
theorem sw_or (h : ST X W a mt) (k : SW X W (.BoolOp .Or (b :: rest) pos) mu) : SW X W (.BoolOp .Or (a :: b :: rest) pos) (mOr mt mu) := let ⟨_, p, s⟩ := h.ex; let ⟨_, q, r⟩ := k.ex; ⟨_, pw_or p q, sim_or s r⟩
theorem st_not (h : ST X W a mt) : ST X W (.UnaryOp .Not a pos) (mNot mt) := by
  obtain ⟨t, p, s⟩ := h.ex
  refine ⟨_, pt_not p, ?_⟩
  refine Sim.bind (R := RB) (S := RB) (u := fun c σ H Q => Q (!c) H) s fun B0 H0 env σ B H a v B1 H1 I x r => ?_
  cases r
  exact fun Q q => q _ B1 H1 x rfl
/-- a < b < c -/
def chainK (f g : D → D → Option D) (rc : Res D) (a b : D) : Res D := match f a b with
  | some (.bl true) => rc.bind fun c => ofO (g b c)
  | some (.bl false) => .ok (.bl false)
  | _ => .stuck
def mChain (f g : D → D → Option D) (ma mb mc : En → Res D) : En → Res D := mB ma fun a => mB mb fun b => fun env => chainK f g (mc env) a b
theorem sim_chain {K : PySem.W.Frag} {r r' : R2} {f g : D → D → Option D} {ta tb tc : TE} (hr : SR2 RP K r f) (hr' : SR2 RP K r' g) (ha : Sim RT K W ta ma) (hb : Sim RT K W tb mb) (hc : Sim RT K W tc mc) : Sim RP K W (tChain r r' ta tb tc) (mChain f g ma mb mc) := by
  intro B0 H0 env σ B H I
  unfold mChain mB
  cases e1 : ma env with
  | stuck => trivial
  | exc c fn fv => exact fun Q q => ha.exc I e1 q
  | ok a =>
    show Post RP K W σ B H ((mb env).bind fun b => chainK f g (mc env) a b) _
    cases e2 : mb env with
    | stuck => trivial
    | exc c fn fv => exact fun Q q => ha.ok I e1 fun v B1 H1 x I1 r1 => hb.exc I1 e2 fun od B' H' y z => q od B' H' (x.trans y) z
    | ok b =>
      show Post RP K W σ B H (chainK f g (mc env) a b) _
      unfold chainK
      cases e3 : f a b with
      | none => trivial
      | some z =>
        cases z with
        | bl k =>
          cases k with
          | false =>
            intro Q q
            refine ha.ok I e1 fun v B1 H1 x I1 r1 => ?_
            refine hb.ok I1 e2 fun u B2 H2 y I2 r2 => ?_
            refine hr B2 H2 v u a b _ I2.xs (r1.xt y) r2 e3 _ fun w B' H' s2 r3 => ⟨false, rep_bl r3, ?_⟩
            rw [if_neg Bool.false_ne_true]
            exact q _ B' H' ((x.trans y).trans s2) rfl
          | true =>
            show Post RP K W σ B H ((mc env).bind fun c => ofO (g b c)) _
            cases e4 : mc env with
            | stuck => trivial
            | exc c fn fv =>
              intro Q q
              refine ha.ok I e1 fun v B1 H1 x I1 r1 => ?_
              refine hb.ok I1 e2 fun u B2 H2 y I2 r2 => ?_
              refine hr B2 H2 v u a b _ I2.xs (r1.xt y) r2 e3 _ fun w B' H' s2 r3 => ⟨true, rep_bl r3, ?_⟩
              rw [if_pos rfl]
              exact hc.exc (I2.xt s2) e4 fun od B' H' y2 z => q od B' H' (((x.trans y).trans s2).trans y2) z
            | ok c =>
              show Post RP K W σ B H (ofO (g b c)) _
              cases e5 : g b c with
              | none => trivial
              | some z =>
                intro Q q
                refine ha.ok I e1 fun v B1 H1 x I1 r1 => ?_
                refine hb.ok I1 e2 fun u B2 H2 y I2 r2 => ?_
                refine hr B2 H2 v u a b _ I2.xs (r1.xt y) r2 e3 _ fun w B3 H3 s2 r3 => ⟨true, rep_bl r3, ?_⟩
                rw [if_pos rfl]
                refine hc.ok (I2.xt s2) e4 fun u2 B4 H4 y2 I4 r4 => ?_
                exact hr' B4 H4 u u2 b c z I4.xs ((r2.xt (G := H) s2).xt y2) r4 e5 Q fun w B' H' s3 r5 => q w B' H' ((((x.trans y).trans s2).trans y2).trans s3) r5
        | _ => trivial
theorem st_chain {op op' : CmpOp} {r r' : R2} {f g : D → D → Option D} (ho : OpR X (compareOp op) r) (ho' : OpR X (compareOp op') r') (hr : SR2 RP X.K r f) (hr' : SR2 RP X.K r' g) (ha : SE X W RT a ma) (hb : SE X W RT b mb) (hc : SE X W RT c mc)
    (hm : lastMarks [op, op'] [b, c] = false := by with_unfolding_all rfl) : ST X W (.Compare a [op, op'] [b, c] pos) (mTest (mChain f g ma mb mc)) :=
  let ⟨_, p1, s1⟩ := ha.ex; let ⟨_, p2, s2⟩ := hb.ex; let ⟨_, p3, s3⟩ := hc.ex; ⟨_, pt_chain ho ho' p1 p2 p3 hm, sim_test (Sim.pt (sim_chain hr hr' s1 s2 s3))⟩
theorem se_chain {op op' : CmpOp} {r r' : R2} {f g : D → D → Option D} (ho : OpR X (compareOp op) r) (ho' : OpR X (compareOp op') r') (hr : SR2 RP X.K r f) (hr' : SR2 RP X.K r' g) (ha : SE X W RT a ma) (hb : SE X W RT b mb) (hc : SE X W RT c mc)
    (hm : lastMarks [op, op'] [b, c] = false := by with_unfolding_all rfl) : SE X W RP (.Compare a [op, op'] [b, c] pos) (mChain f g ma mb mc) :=
  let ⟨_, p1, s1⟩ := ha.ex; let ⟨_, p2, s2⟩ := hb.ex; let ⟨_, p3, s3⟩ := hc.ex; ⟨_, pe_chain ho ho' p1 p2 p3 hm, sim_chain hr hr' s1 s2 s3⟩

/-! ### and, or, not, if as values -/
def mAndV (ma mb : En → Res D) : En → Res D := mB ma fun d env => match d with
  | .bl true => mb env
  | .bl false => .ok (.bl false)
  | _ => .stuck
def mOrV (ma mb : En → Res D) : En → Res D := mB ma fun d env => match d with
  | .bl false => mb env
  | .bl true => .ok (.bl true)
  | _ => .stuck
theorem sim_andV {K : PySem.W.Frag} {t u : TE} (h : Sim RT K W t ma) (k : Sim RP K W u mb) : Sim RP K W (tAndV t u) (mAndV ma mb) := by
  refine Sim.bind (R := RT) (S := RP) (u := fun x σ H Q => ∃ c, x = V.bl c ∧ if c = true then u σ H Q else Q (.bl false) H) h fun B0 H0 env σ B H a v B1 H1 I x r => ?_
  cases a with
  | bl c =>
    cases rep_bl (r.rep I.xs)
    cases c with
    | false => exact fun Q q => ⟨false, rfl, q _ B1 H1 x rfl⟩
    | true =>
      exact (k.post late_P I x).wrap fun Q z => ⟨_, rfl, z⟩
  | _ => trivial
theorem sim_orV {K : PySem.W.Frag} {t u : TE} (h : Sim RT K W t ma) (k : Sim RP K W u mb) : Sim RP K W (tOrV t u) (mOrV ma mb) := by
  refine Sim.bind (R := RT) (S := RP) (u := fun x σ H Q => ∃ c, x = V.bl c ∧ if c = true then Q (.bl true) H else u σ H Q) h fun B0 H0 env σ B H a v B1 H1 I x r => ?_
  cases a with
  | bl c =>
    cases rep_bl (r.rep I.xs)
    cases c with
    | true => exact fun Q q => ⟨true, rfl, q _ B1 H1 x rfl⟩
    | false =>
      exact (k.post late_P I x).wrap fun Q z => ⟨_, rfl, z⟩
  | _ => trivial
theorem se_one {op} (h : SE X W RP a ma) : SE X W RP (.BoolOp op [a] pos) ma := let ⟨_, p, s⟩ := h.ex; ⟨_, pe_one p, s⟩
theorem se_and (h : SE X W RT a ma) (k : SE X W RP (.BoolOp .And (b :: rest) pos) mb) : SE X W RP (.BoolOp .And (a :: b :: rest) pos) (mAndV ma mb) := let ⟨_, p, s⟩ := h.ex; let ⟨_, q, r⟩ := k.ex; ⟨_, pe_and p q, sim_andV s r⟩
theorem se_or (h : SE X W RT a ma) (k : SE X W RP (.BoolOp .Or (b :: rest) pos) mb) : SE X W RP (.BoolOp .Or (a :: b :: rest) pos) (mOrV ma mb) := let ⟨_, p, s⟩ := h.ex; let ⟨_, q, r⟩ := k.ex; ⟨_, pe_or p q, sim_orV s r⟩
def mNotV (ma : En → Res D) : En → Res D := mB ma fun d _ => (truB d).bind fun b => .ok (.bl (!b))
theorem se_not (h : SE X W RT a ma) : SE X W RP (.UnaryOp .Not a pos) (mNotV ma) := by
  obtain ⟨t, p, s⟩ := h.ex
  refine ⟨_, pe_notT p, ?_⟩
  refine Sim.bind (R := RT) (S := RP) (u := fun x σ H Q => ∃ k, TruV X.K x H k ∧ Q (.bl (!k)) H) s fun B0 H0 env σ B H a v B1 H1 I x r => ?_
  cases e : truB a with
  | stuck => trivial
  | exc c fn fv => cases a <;> first | (cases e; done) | (simp [truB] at e; done) | (unfold truB at e; dsimp only at e; split at e <;> cases e)
  | ok b => exact fun Q q => ⟨b, tru_of e (r.rep I.xs), q _ B1 H1 x rfl⟩
def mIf {α : Type} (mt : En → Res Bool) (ma mb : En → Res α) : En → Res α := mB mt fun c env => if c then ma env else mb env
theorem se_ifexp {α : Type} {R : RG α V} {na nb : En → Res α} (lt : Late R) (hc : ST X W c mt) (ha : SE X W R a na) (hb : SE X W R b nb) : SE X W R (.IfExp c a b pos) (mIf mt na nb) := by
  obtain ⟨t, p, s⟩ := hc.ex
  obtain ⟨ta, pa, sa⟩ := ha.ex
  obtain ⟨tb, pb, sb⟩ := hb.ex
  refine ⟨_, pe_ifExp p pa pb, ?_⟩
  refine Sim.bind (R := RB) (S := R) (u := fun k σ H Q => if k = true then ta σ H Q else tb σ H Q) s fun B0 H0 env σ B H k v B1 H1 I x r => ?_
  cases r
  cases k with
  | true =>
    exact sa.post lt I x
  | false =>
    exact sb.post lt I x
end
end Sm

set_option autoImplicit true
set_option Elab.async false
set_option linter.all false
set_option maxRecDepth 100000
set_option maxHeartbeats 4000000
namespace Sm
open PySem PySem.Spec PyProof.Rows L2

/-! ### arguments -/
def RTs (K : PySem.W.Frag) (B H : Hp) : List D → List V → Prop
  | [], vs => vs = []
  | d :: ds, vs => ∃ v r, vs = v :: r ∧ RT K H B H d v ∧ RTs K B H ds r
def RAT : RG (List D) (List V) := fun K _ B' H' ds vs => RTs K B' H' ds vs
theorem late_AT : Late RAT := fun _ _ _ _ _ _ _ _ _ _ h => h
theorem RTs.xt {K B1 H1 B2 H2} (x : Xt B1 H1 B2 H2) : ∀ {ds : List D} {vs : List V}, RTs K B1 H1 ds vs → RTs K B2 H2 ds vs
  | [], _, h => h
  | d :: ds, vs, h => let ⟨v, r, e, h1, h2⟩ := h; ⟨v, r, e, h1.xt x, RTs.xt x h2⟩
structure SAT (X : Cx) (W : WX) (es : List Expr) (m : En → Res (List D)) : Prop where
  ex : ∃ t, PA X es t ∧ Sim RAT X.K W t m
def mNil : En → Res (List D) := fun _ => .ok []
def mCons (ma : En → Res D) (mr : En → Res (List D)) : En → Res (List D) := mB ma fun d => mB mr fun ds _ => .ok (d :: ds)
section
variable {X : Cx} {W : WX} {e : Expr} {es : List Expr} {ma : En → Res D} {mr : En → Res (List D)} {pos : Pos}
theorem sa_nil : SAT X W [] mNil := ⟨_, pa_nil, fun _ _ _ _ B H I Q q => q [] B H (Xt.refl I.xs) rfl⟩
theorem sa_cons (h : SE X W RT e ma) (k : SAT X W es mr) (hs : starEach (e :: es) X.env = (false, eval e X.env) :: starEach es X.env := by rfl) : SAT X W (e :: es) (mCons ma mr) := by
  obtain ⟨t, p, s⟩ := h.ex
  obtain ⟨u, q, r⟩ := k.ex
  refine ⟨_, pa_cons p q hs, ?_⟩
  refine Sim.bind (R := RT) (S := RAT) (u := fun x σ H Q => u σ H fun xs H2 => Q (x :: xs) H2) s fun B0 H0 env σ B H a v B1 H1 I x r1 => ?_
  cases e2 : mr env with
  | stuck => unfold mB; rw [e2]; trivial
  | exc c fn fv => unfold mB; rw [e2]; exact fun Q z => r.exc I e2 fun od B' H' y w => z od B' H' (x.trans y) w
  | ok ds =>
    unfold mB
    rw [e2]
    exact fun Q z => r.ok I e2 fun vs B2 H2 y I2 r2 => z _ B2 H2 (x.trans y) ⟨v, vs, rfl, r1.xt y, r2⟩
theorem sp_nil : SA X W [] mNil := ⟨_, pa_nil, fun _ _ _ _ B H I Q q => q [] B H (Xt.refl I.xs) (by show Reps _ _ _ _; simp only [Reps])⟩
theorem sp_cons (h : SE X W RP e ma) (k : SA X W es mr) (hs : starEach (e :: es) X.env = (false, eval e X.env) :: starEach es X.env := by rfl) : SA X W (e :: es) (mCons ma mr) := by
  obtain ⟨t, p, s⟩ := h.ex
  obtain ⟨u, q, r⟩ := k.ex
  refine ⟨_, pa_cons p q hs, ?_⟩
  refine Sim.bind (R := RP) (S := RA) (u := fun x σ H Q => u σ H fun xs H2 => Q (x :: xs) H2) s fun B0 H0 env σ B H a v B1 H1 I x r1 => ?_
  cases e2 : mr env with
  | stuck => unfold mB; rw [e2]; trivial
  | exc c fn fv => unfold mB; rw [e2]; exact fun Q z => r.exc I e2 fun od B' H' y w => z od B' H' (x.trans y) w
  | ok ds =>
    unfold mB
    rw [e2]
    refine fun Q z => r.ok I e2 fun vs B2 H2 y I2 r2 => z _ B2 H2 (x.trans y) ?_
    show Reps _ _ _ _
    simp only [Reps]
    exact ⟨v, vs, rfl, Rep.mono y.b r1, r2⟩
/-! ### displays -/
def mTupL (m : En → Res (List D)) : En → Res D := mB m fun ds _ => if szB ds.length then .ok (.tup ds) else .stuck
def mLstL (m : En → Res (List D)) : En → Res (List D) := mB m fun ds _ => if szB ds.length then .ok ds else .stuck
theorem se_tup {x1} (h : SA X W es mr) : SE X W RP (.Tuple es x1 pos) (mTupL mr) := by
  obtain ⟨t, p, s⟩ := h.ex
  refine ⟨_, pe_tupZ p, ?_⟩
  refine Sim.bind (R := RA) (S := RP) (u := fun xs σ H Q => xs.length ≤ sizeLine ∧ qTup xs H Q) s fun B0 H0 env σ B H a v B1 H1 I x r1 => ?_
  by_cases c : szB a.length = true
  · rw [if_pos c]
    exact fun Q q => ⟨by rw [← Reps.length r1]; exact szB_ok c, qTup.ok I.xs r1 fun w B' H' y r => q w B' H' (x.trans y) r⟩
  · rw [if_neg c]
    trivial
theorem se_lst (h : SA X W es mr) : SE X W RF (.List es pos) (mLstL mr) := by
  obtain ⟨t, p, s⟩ := h.ex
  refine ⟨_, pe_lst p, ?_⟩
  refine Sim.bind (R := RA) (S := RF) (u := fun xs σ H Q => xs.length ≤ sizeLine ∧ ∀ p, H p = none → Q (.ref p) (upd H p (.lst xs))) s fun B0 H0 env σ B H a v B1 H1 I x r1 => ?_
  by_cases c : szB a.length = true
  · rw [if_pos c]
    exact fun Q q => ⟨by rw [← Reps.length r1]; exact szB_ok c, fun p hp => q _ _ _ (x.trans (Xt.out I.xs hp)) ⟨p, v, rfl, x.h.free hp, I.xs.free hp, upd_same, r1⟩⟩
  · rw [if_neg c]
    trivial
end

/-! ### items -/
def ixD : D → D → Option D
  | .lst xs, .int i => atI xs i
  | .tup xs, .int i => atI xs i
  | .scr ns, .int i => (atI ns i).map .int
  | .str z, .int i => if szB z.length then (atI z.cps.toList i).map fun c => .str ⟨#[c]⟩ else none
  | _, _ => none
theorem Reps.get {K H} : ∀ {ds : List D} {vs : List V} {j : Nat} {d : D}, Reps K H ds vs → ds[j]? = some d → ∃ v, vs[j]? = some v ∧ Rep K H d v
  | [], vs, j, d, _, h => by simp at h
  | c :: ds, vs, 0, d, r, h => by
    simp only [Reps] at r
    obtain ⟨v, q, e, h1, h2⟩ := r
    subst e
    simp at h
    subst h
    exact ⟨v, rfl, h1⟩
  | c :: ds, vs, j + 1, d, r, h => by
    simp only [Reps] at r
    obtain ⟨v, q, e, h1, h2⟩ := r
    subst e
    obtain ⟨w, hw, hr⟩ := Reps.get (j := j) h2 (by simpa using h)
    exact ⟨w, by simpa using hw, hr⟩
theorem Reps.at {K H} {ds : List D} {vs : List V} {i : Int} {d : D} (r : Reps K H ds vs) (h : atI ds i = some d) : ∃ v, atI vs i = some v ∧ Rep K H d v := by
  unfold atI at h ⊢
  rw [← r.length]
  cases e : ixN ds.length i with
  | none => rw [e] at h; cases h
  | some j =>
    rw [e] at h
    exact r.get h
theorem atI_map {α β : Type} (f : α → β) (xs : List α) (i : Int) : atI (xs.map f) i = (atI xs i).map f := by
  unfold atI
  rw [List.length_map]
  cases e : ixN xs.length i with
  | none => rfl
  | some j => show (xs.map f)[j]? = (xs[j]?).map f; rw [List.getElem?_map]
theorem sr_ix {K} : SR2 RP K (rIx K) ixD := by
  intro B H x y d e z s rx ry hf Q q
  cases e with
  | int i =>
    have ey := rep_int (ry.rep s)
    subst ey
    cases d with
    | lst xs =>
      obtain ⟨a, vs, e1, h1, r1⟩ := rx.list s
      obtain ⟨v, hv, r⟩ := r1.at hf
      exact .inl ⟨a, vs, i, v, e1, rfl, SqL.of h1, hv, q v B H (Xt.refl s) r⟩
    | tup xs =>
      obtain ⟨a, vs, e1, h1, n1, r1⟩ := rep_tup (rx.stay fun _ z => nomatch z)
      obtain ⟨v, hv, r⟩ := r1.at hf
      exact .inr (.inl ⟨a, vs, i, v, e1, rfl, s.t h1, hv, q v B H (Xt.refl s) r⟩)
    | scr ns =>
      have hr := rx.rep s
      simp only [Rep] at hr
      obtain ⟨a, e1, h1⟩ := hr
      have hf' : (atI ns i).map D.int = some z := hf
      cases e2 : atI ns i with
      | none => rw [e2] at hf'; cases hf'
      | some n =>
        rw [e2] at hf'
        cases hf'
        exact .inl ⟨a, _, i, .int n, e1, rfl, h1, by rw [atI_map, e2]; rfl, q _ B H (Xt.refl s) rfl⟩
    | str w =>
      have hx := rep_str (rx.rep s)
      subst hx
      have hf' : (if szB w.length = true then (atI w.cps.toList i).map fun c => D.str ⟨#[c]⟩ else none) = some z := hf
      split at hf'
      · rename_i c
        cases e2 : atI w.cps.toList i with
        | none => rw [e2] at hf'; cases hf'
        | some n =>
          rw [e2] at hf'
          cases hf'
          exact .inr (.inr ⟨w, i, n, rfl, rfl, szB_ok c, e2, q _ B H (Xt.refl s) rfl⟩)
      · cases hf'
    | _ => cases hf
  | _ => cases d <;> cases hf
theorem se_ix {X : Cx} {W : WX} {a b : Expr} {ma mb : En → Res D} {pos : Pos} (ha : SE X W RT a ma) (hb : SE X W RT b mb) (hs : PlainIx b := by exact fun _ _ => rfl) : SE X W RP (.Subscript a b pos) (mOp ixD ma mb) :=
  let ⟨_, p1, s1⟩ := ha.ex; let ⟨_, p2, s2⟩ := hb.ex; ⟨_, pe_ix ix_seq p1 p2 hs, sim_op late_P sr_ix s1 s2⟩

/-! ### slices -/
def mONone : En → Res (Option Int) := fun _ => .ok none
def asI : D → Res Int
  | .int i => .ok i
  | _ => .stuck
def mOSome (m : En → Res D) : En → Res (Option Int) := mB m fun d _ => (asI d).bind fun i => .ok (some i)
section
variable {X : Cx} {W : WX} {e : Expr} {m : En → Res D} {pos p2 : Pos} {lo hi : Option Expr} {ml mh : En → Res (Option Int)}
theorem so_none : SO X W none mONone := ⟨_, po_none, fun _ _ _ _ B H I Q q => q none B H (Xt.refl I.xs) rfl⟩
theorem so_some (h : SE X W RT e m) : SO X W (some e) (mOSome m) := by
  obtain ⟨t, p, s⟩ := h.ex
  refine ⟨_, po_some p, ?_⟩
  refine Sim.bind (R := RT) (S := RO) (u := fun x σ H Q => ∃ i, x = .int i ∧ Q (some i) H) s fun B0 H0 env σ B H a v B1 H1 I x r => ?_
  cases a with
  | int i =>
    cases rep_int (r.rep I.xs)
    exact fun Q q => ⟨i, rfl, q _ B1 H1 x rfl⟩
  | _ => trivial
def cutD (xs : List D) (lo hi : Option Int) : List D := (xs.drop (HT.sIx xs.length 0 lo)).take (HT.sIx xs.length xs.length hi - HT.sIx xs.length 0 lo)
theorem Reps.drop {K H} : ∀ {ds : List D} {vs : List V} (n : Nat), Reps K H ds vs → Reps K H (ds.drop n) (vs.drop n)
  | ds, vs, 0, r => by simpa using r
  | [], vs, n + 1, r => by simp only [Reps] at r; subst r; simp [Reps]
  | d :: ds, vs, n + 1, r => by
    simp only [Reps] at r
    obtain ⟨v, q, e, _, h2⟩ := r
    subst e
    exact Reps.drop n h2
theorem Reps.take {K H} : ∀ {ds : List D} {vs : List V} (n : Nat), Reps K H ds vs → Reps K H (ds.take n) (vs.take n)
  | ds, vs, 0, r => by simp [Reps]
  | [], vs, n + 1, r => by simp only [Reps] at r; subst r; simp [Reps]
  | d :: ds, vs, n + 1, r => by
    simp only [Reps] at r
    obtain ⟨v, q, e, h1, h2⟩ := r
    subst e
    show Reps K H (d :: ds.take n) (v :: q.take n)
    simp only [Reps]
    exact ⟨v, _, rfl, h1, Reps.take n h2⟩
theorem Reps.cut {K H} {ds : List D} {vs : List V} {lo hi} (r : Reps K H ds vs) : Reps K H (cutD ds lo hi) (cutV vs lo hi) := by
  unfold cutD cutV
  rw [← r.length]
  exact (r.drop _).take _
/-- a text's or a tuple's part -/
def slD (d : D) (lo hi : Option Int) : Res D := match d with
  | .str z => if szB z.length then .ok (.str (cutS z lo hi)) else .stuck
  | .tup xs => .ok (.tup (cutD xs lo hi))
  | _ => .stuck
/-- a list's part, new -/
def slL (d : D) (lo hi : Option Int) : Res (List D) := match d with
  | .lst xs => .ok (cutD xs lo hi)
  | .scr ns => .ok (cutD (ns.map .int) lo hi)
  | _ => .stuck
def mSl {α : Type} (f : D → Option Int → Option Int → Res α) (m : En → Res D) (ml mh : En → Res (Option Int)) : En → Res α := mB m fun d => mB ml fun lo => mB mh fun hi _ => f d lo hi
theorem sim_sl {α : Type} {R : RG α V} (lt : Late R) {K : PySem.W.Frag} {r : V → Option Int → Option Int → Hp → VK → Prop} {f : D → Option Int → Option Int → Res α} {t : TE} {tl th : TO}
    (hr : ∀ (B H G : Hp) (x : V) (d : D) (lo hi : Option Int) (z : α), Ex B H → RT K G B H d x → f d lo hi = .ok z → ∀ Q : VK, (∀ v B' H', Xt B H B' H' → R K H B' H' z v → Q v H') → r x lo hi H Q) (hx : ∀ d lo hi c fn fv, f d lo hi ≠ .exc c fn fv)
    (h : Sim RT K W t m) (h1 : Sim RO K W tl ml) (h2 : Sim RO K W th mh) : Sim R K W (tSl r t tl th) (mSl f m ml mh) := by
  intro B0 H0 env σ B H I
  unfold mSl mB
  cases e1 : m env with
  | stuck => trivial
  | exc c fn fv => exact fun Q q => h.exc I e1 q
  | ok d =>
    show Post R K W σ B H ((ml env).bind fun lo => (mh env).bind fun hi => f d lo hi) _
    cases e2 : ml env with
    | stuck => trivial
    | exc c fn fv => exact fun Q q => h.ok I e1 fun v B1 H1 x I1 r1 => h1.exc I1 e2 fun od B' H' y z => q od B' H' (x.trans y) z
    | ok lo =>
      show Post R K W σ B H ((mh env).bind fun hi => f d lo hi) _
      cases e3 : mh env with
      | stuck => trivial
      | exc c fn fv => exact fun Q q => h.ok I e1 fun v B1 H1 x I1 r1 => h1.ok I1 e2 fun a B2 H2 y I2 r2 => h2.exc I2 e3 fun od B' H' y2 z => q od B' H' ((x.trans y).trans y2) z
      | ok hi =>
        show Post R K W σ B H (f d lo hi) _
        cases e4 : f d lo hi with
        | stuck => trivial
        | exc c fn fv => exact absurd e4 (hx _ _ _ _ _ _)
        | ok z =>
          intro Q q
          refine h.ok I e1 fun v B1 H1 x I1 r1 => ?_
          refine h1.ok I1 e2 fun a B2 H2 y I2 r2 => ?_
          refine h2.ok I2 e3 fun b B3 H3 y2 I3 r3 => ?_
          cases r2
          cases r3
          exact hr B3 H3 H v d lo hi z I3.xs ((r1.xt (G := H) y).xt y2) e4 Q fun w B' H' y3 r4 => q w B' H' (((x.trans y).trans y2).trans y3) (lt _ _ _ _ _ _ _ _ _ ((x.trans y).trans y2) r4)
theorem se_sl (h : SE X W RT e m) (h1 : SO X W lo ml) (h2 : SO X W hi mh) : SE X W RP (.Subscript e (.Slice lo hi none p2) pos) (mSl slD m ml mh) := by
  obtain ⟨t, p, s⟩ := h.ex
  obtain ⟨tl, q1, s1⟩ := h1.ex
  obtain ⟨th, q2, s2⟩ := h2.ex
  refine ⟨_, pe_slice (sl_str.or sl_tupZ) p q1 q2, ?_⟩
  refine sim_sl late_P (fun B H G x d lo hi z sx rx hf Q q => ?_) (fun d lo hi c fn fv z => ?_) s s1 s2
  · cases d with
    | str w =>
      cases rep_str (rx.rep sx)
      have hf' : (if szB w.length = true then (Res.ok (.str (cutS w lo hi)) : Res D) else .stuck) = .ok z := hf
      split at hf'
      · rename_i c
        cases hf'
        exact .inl ⟨w, rfl, szB_ok c, q _ B H (Xt.refl sx) rfl⟩
      · cases hf'
    | tup xs =>
      obtain ⟨a, vs, e1, h1, n1, r1⟩ := rep_tup (rx.stay fun _ z => nomatch z)
      cases hf
      refine .inr ⟨a, vs, e1, sx.t h1, fun ⟨z1, z2⟩ => ?_, fun _ => qTup.ok sx r1.cut q⟩
      have ec : cutD xs lo hi = xs := by
        unfold cutD
        rw [r1.length, z1, z2, Nat.sub_zero, List.drop_zero, ← r1.length, List.take_length]
      rw [ec] at q
      exact q _ B H (Xt.refl sx) (mk_tup h1 n1 r1)
    | _ => cases hf
  · cases d <;> first | (cases z; done) | (unfold slD at z; dsimp only at z; split at z <;> cases z)
theorem se_slL (h : SE X W RT e m) (h1 : SO X W lo ml) (h2 : SO X W hi mh) : SE X W RF (.Subscript e (.Slice lo hi none p2) pos) (mSl slL m ml mh) := by
  obtain ⟨t, p, s⟩ := h.ex
  obtain ⟨tl, q1, s1⟩ := h1.ex
  obtain ⟨th, q2, s2⟩ := h2.ex
  refine ⟨_, pe_slice sl_list p q1 q2, ?_⟩
  refine sim_sl late_F (fun B H G x d lo hi z sx rx hf Q q => ?_) (fun d lo hi c fn fv z => by cases d <;> cases z) s s1 s2
  cases d with
  | lst xs =>
    obtain ⟨a, vs, e1, h1, r1⟩ := rx.list sx
    cases hf
    exact ⟨a, vs, e1, SqL.of h1, fun p hp => q _ _ _ (Xt.out sx hp) ⟨p, _, rfl, hp, sx.free hp, upd_same, r1.cut⟩⟩
  | scr ns =>
    have hr := rx.rep sx
    simp only [Rep] at hr
    obtain ⟨a, e1, h1⟩ := hr
    cases hf
    have r1 : Reps X.K B (ns.map D.int) (ns.map V.int) := by
      clear h1 q rx
      induction ns with
      | nil => simp [Reps]
      | cons n ns ih =>
        show Reps X.K B (.int n :: ns.map D.int) (.int n :: ns.map V.int)
        simp only [Reps]
        exact ⟨_, _, rfl, rfl, ih⟩
    exact ⟨a, _, e1, h1, fun p hp => q _ _ _ (Xt.out sx hp) ⟨p, _, rfl, hp, sx.free hp, upd_same, r1.cut⟩⟩
  | _ => cases hf
end

/-! ### built-in functions -/
def SRC {α : Type} (R : RG α V) (K : PySem.W.Frag) (r : List V → Hp → VK → Prop) (f : List D → Res α) : Prop :=
  (∀ (B H : Hp) (xs : List V) (ds : List D) (z : α), Ex B H → RTs K B H ds xs → f ds = .ok z → ∀ Q : VK, (∀ v B' H', Xt B H B' H' → R K H B' H' z v → Q v H') → r xs H Q) ∧ ∀ ds c fn fv, f ds ≠ .exc c fn fv
def mCB {α : Type} (f : List D → Res α) (m : En → Res (List D)) : En → Res α := mB m fun ds _ => f ds
theorem sim_cb {α : Type} {R : RG α V} (lt : Late R) {K W} {r : List V → Hp → VK → Prop} {f : List D → Res α} {t : TA} {m : En → Res (List D)} (hr : SRC R K r f) (h : Sim RAT K W t m) : Sim R K W (tCB r t) (mCB f m) := by
  refine Sim.bind (R := RAT) (S := R) (u := fun xs σ H Q => r xs H Q) h fun B0 H0 env σ B H a v B1 H1 I x r1 => ?_
  cases e : f a with
  | stuck => trivial
  | exc c fn fv => exact absurd e (hr.2 _ _ _ _)
  | ok z => exact fun Q q => hr.1 B1 H1 v a z I.xs r1 e Q fun w B' H' y r2 => q w B' H' (x.trans y) (lt _ _ _ _ _ _ _ _ _ x r2)
section
variable {X : Cx} {W : WX} {x : Str} {p pos : Pos} {e : Expr} {es : List Expr} {m : En → Res (List D)} {id T : String} {α : Type} {R : RG α V} {f : List D → Res α} {r : List V → Hp → VK → Prop}
theorem se_cb (lt : Late R) (hc : CallR X (.builtin id) r) (hr : SRC R X.K r f) (hm : X.mg x = none) (hv : bootBuiltins x = some (.builtin id)) (ha : SAT X W (e :: es) m) (hg : Gl X x := by rfl) (hn : x ≠ "__name__" := by decide) (hdb : (x == ("__debug__" : Str)) = false := by decide)
    (he : starEach (e :: es) X.env = (false, eval e X.env) :: starEach es X.env := by rfl) (hpl : (backTo pos (starEach es X.env)).any (·.1) = false := by rfl) : SE X W R (.Call (.Name x p) (e :: es) [] pos) (mCB f m) :=
  let ⟨_, q, s⟩ := ha.ex; ⟨_, pe_callB hc hg hm hv q hn hdb he hpl, sim_cb lt hr s⟩
theorem se_cty (lt : Late R) (hc : CallR X (.type T) r) (hr : SRC R X.K r f) (hm : X.mg x = none) (hv : bootBuiltins x = some (.type T)) (ha : SAT X W (e :: es) m) (hg : Gl X x := by rfl) (hn : x ≠ "__name__" := by decide) (hdb : (x == ("__debug__" : Str)) = false := by decide)
    (he : starEach (e :: es) X.env = (false, eval e X.env) :: starEach es X.env := by rfl) (hpl : (backTo pos (starEach es X.env)).any (·.1) = false := by rfl) : SE X W R (.Call (.Name x p) (e :: es) [] pos) (mCB f m) :=
  let ⟨_, q, s⟩ := ha.ex; ⟨_, pe_callTy hc hg hm hv q hn hdb he hpl, sim_cb lt hr s⟩
end
/-! one argument -/
def f1 {α : Type} (f : D → Res α) : List D → Res α
  | [d] => f d
  | _ => .stuck
theorem src1 {α : Type} {R : RG α V} {K} {r : List V → Hp → VK → Prop} {f : D → Res α}
    (h : ∀ (B H : Hp) (x : V) (d : D) (z : α), Ex B H → RT K H B H d x → f d = .ok z → ∀ Q : VK, (∀ v B' H', Xt B H B' H' → R K H B' H' z v → Q v H') → r [x] H Q) (hx : ∀ d c fn fv, f d ≠ .exc c fn fv) : SRC R K r (f1 f) := by
  refine ⟨fun B H xs ds z s hr hf Q q => ?_, fun ds c fn fv z => ?_⟩
  · match ds, hf, hr with
    | [d], hf, hr =>
      obtain ⟨v, r', e, h1, h2⟩ := hr
      have e2 : r' = [] := h2
      subst e2 e
      exact h B H v d z s h1 hf Q q
  · match ds, z with
    | [d], z => exact hx d c fn fv z
/-! len -/
def lenD : D → Res D
  | .lst xs => .ok (.int xs.length)
  | .tup xs => .ok (.int xs.length)
  | .scr ns => .ok (.int ns.length)
  | .str z => if szB z.length then .ok (.int z.length) else .stuck
  | _ => .stuck
def rLen2 (K : PySem.W.Frag) : List V → Hp → VK → Prop := fun xs H Q => (∃ p ys, xs = [.ref p] ∧ (SqL K H p ys ∨ SqT K H p ys) ∧ Q (.int ys.length) H) ∨ (∃ z, xs = [.str z] ∧ z.length ≤ sizeLine ∧ Q (.int z.length) H)
theorem call_len2 {X : Cx} : CallR X (.builtin "len") (rLen2 X.K) := call_len_seq.or call_len_str
theorem src_len {K} : SRC RP K (rLen2 K) (f1 lenD) := by
  refine src1 (fun B H x d z s rx hf Q q => ?_) fun d c fn fv z => by cases d <;> first | (cases z; done) | (unfold lenD at z; dsimp only at z; split at z <;> cases z)
  cases d with
  | lst xs =>
    obtain ⟨a, vs, e1, h1, r1⟩ := rx.list s
    subst e1
    cases hf
    exact .inl ⟨a, vs, rfl, .inl (SqL.of h1), q _ B H (Xt.refl s) (by rw [r1.length]; rfl)⟩
  | tup xs =>
    obtain ⟨a, vs, e1, h1, n1, r1⟩ := rep_tup (rx.rep s)
    subst e1
    cases hf
    exact .inl ⟨a, vs, rfl, .inr h1, q _ B H (Xt.refl s) (by rw [r1.length]; rfl)⟩
  | scr ns =>
    have hr := rx.rep s
    simp only [Rep] at hr
    obtain ⟨a, e1, h1⟩ := hr
    subst e1
    cases hf
    exact .inl ⟨a, _, rfl, .inl h1, q _ B H (Xt.refl s) (by rw [List.length_map]; rfl)⟩
  | str w =>
    cases rep_str (rx.rep s)
    have hf' : (if szB w.length = true then (Res.ok (.int w.length) : Res D) else .stuck) = .ok z := hf
    split at hf'
    · rename_i c
      cases hf'
      exact .inr ⟨w, rfl, szB_ok c, q _ B H (Xt.refl s) rfl⟩
    · cases hf'
  | _ => cases hf
/-! int -/
def intD : D → Res D
  | .int i => .ok (.int i)
  | .bl b => .ok (.int (if b then 1 else 0))
  | _ => .stuck
theorem src_int {K} : SRC RP K (fun xs H Q => (∃ i, xs = [.int i] ∧ Q (.int i) H) ∨ ∃ k, xs = [.bl k] ∧ Q (.int (if k then 1 else 0)) H) (f1 intD) := by
  refine src1 (fun B H x d z s rx hf Q q => ?_) fun d c fn fv z => by cases d <;> cases z
  cases d with
  | int i => cases rep_int (rx.rep s); cases hf; exact .inl ⟨i, rfl, q _ B H (Xt.refl s) rfl⟩
  | bl i => cases rep_bl (rx.rep s); cases hf; exact .inr ⟨i, rfl, q _ B H (Xt.refl s) rfl⟩
  | _ => cases hf
/-! list(..), tuple(..) -/
def listL : D → Res (List D)
  | .lst xs => .ok xs
  | .tup xs => .ok xs
  | _ => .stuck
theorem src_list {K} : SRC RF K (fun xs H Q => ∃ p ys, xs = [.ref p] ∧ (SqL K H p ys ∨ SqT K H p ys) ∧ ∀ l, H l = none → Q (.ref l) (upd H l (.lst ys))) (f1 listL) := by
  refine src1 (fun B H x d z s rx hf Q q => ?_) fun d c fn fv z => by cases d <;> cases z
  cases d with
  | lst xs =>
    obtain ⟨a, vs, e1, h1, r1⟩ := rx.list s
    subst e1
    cases hf
    exact ⟨a, vs, rfl, .inl (SqL.of h1), fun l hl => q _ _ _ (Xt.out s hl) ⟨l, vs, rfl, hl, s.free hl, upd_same, r1⟩⟩
  | tup xs =>
    obtain ⟨a, vs, e1, h1, n1, r1⟩ := rep_tup (rx.stay fun _ z => nomatch z)
    subst e1
    cases hf
    exact ⟨a, vs, rfl, .inr (s.t h1), fun l hl => q _ _ _ (Xt.out s hl) ⟨l, vs, rfl, hl, s.free hl, upd_same, r1⟩⟩
  | _ => cases hf
def tupleD : D → Res D
  | .lst xs => .ok (.tup xs)
  | .tup xs => .ok (.tup xs)
  | _ => .stuck
theorem src_tuple {K} : SRC RP K (rTupleZ K) (f1 tupleD) := by
  refine src1 (fun B H x d z s rx hf Q q => ?_) fun d c fn fv z => by cases d <;> cases z
  cases d with
  | lst xs =>
    obtain ⟨a, vs, e1, h1, r1⟩ := rx.list s
    subst e1
    cases hf
    exact ⟨a, vs, rfl, .inl ⟨SqL.of h1, qTup.ok s r1 q⟩⟩
  | tup xs =>
    have r0 := rx.stay fun _ z => nomatch z
    obtain ⟨a, vs, e1, h1, n1, r1⟩ := rep_tup r0
    subst e1
    cases hf
    exact ⟨a, vs, rfl, .inr ⟨s.t h1, q _ B H (Xt.refl s) r0⟩⟩
  | _ => cases hf
end Sm

set_option autoImplicit true
set_option Elab.async false
set_option linter.all false
set_option maxRecDepth 100000
set_option maxHeartbeats 4000000
namespace Sm
open PySem PySem.Spec PyProof.Rows L2

/-! ### the state changes -/
section
variable {K : PySem.W.Frag} {B0 H0 B H : Hp} {env : En} {σ : L2.St}
theorem SI.setSh (I : SI K B0 H0 env σ B H) {d : D} {v : V} (i : Nat) (r : Rep K B d v) : SI K B0 H0 (env.set i (.sh d)) (σ.set i (some v)) B H := by
  refine ⟨by rw [List.length_set, List.length_set]; exact I.len, I.xb, I.xh, I.xs, I.off, fun j e h => ?_, fun j xs h => ?_, fun j l xs ys p h1 h2 h3 h4 => ?_⟩
  · by_cases q : i = j
    · subst q
      have hi : i < env.length := by
        have := (List.getElem?_eq_some_iff.mp h).1
        rwa [List.length_set] at this
      rw [List.getElem?_set_self hi] at h
      cases h
      exact ⟨v, List.getElem?_set_self (by rw [I.len]; exact hi), r⟩
    · rw [List.getElem?_set_ne q] at h ⊢
      exact I.sh j e h
  · by_cases q : i = j
    · subst q
      have hi : i < env.length := by
        have := (List.getElem?_eq_some_iff.mp h).1
        rwa [List.length_set] at this
      rw [List.getElem?_set_self hi] at h
      cases h
    · rw [List.getElem?_set_ne q] at h ⊢
      exact I.ow j xs h
  · have nj : i ≠ j := fun q => by
      subst q
      have hi : i < env.length := by
        have := (List.getElem?_eq_some_iff.mp h1).1
        rwa [List.length_set] at this
      rw [List.getElem?_set_self hi] at h1
      cases h1
    have nl : i ≠ l := fun q => by
      subst q
      have hi : i < env.length := by
        have := (List.getElem?_eq_some_iff.mp h2).1
        rwa [List.length_set] at this
      rw [List.getElem?_set_self hi] at h2
      cases h2
    rw [List.getElem?_set_ne nj] at h1 h3
    rw [List.getElem?_set_ne nl] at h2 h4
    exact I.dj j l xs ys p h1 h2 h3 h4
/-- a new list is taken as one's own -/
theorem SI.setOw (I : SI K B0 H0 env σ B H) {o : Ob} {ho : HO} {p : Addr} (i : Nat) (h0 : H0 p = none) (hb : B p = none) (hh : H p = some ho) (r : RepO K B o ho)
    (new : ∀ (j : Nat) (ys : Ob), env[j]? = some (Cl.ow ys) → σ[j]? ≠ some (some (V.ref p))) : SI K B0 H0 (env.set i (.ow o)) (σ.set i (some (.ref p))) B H := by
  refine ⟨by rw [List.length_set, List.length_set]; exact I.len, I.xb, I.xh, I.xs, I.off, fun j e h => ?_, fun j ys h => ?_, fun j l ys zs q h1 h2 h3 h4 => ?_⟩
  · by_cases q : i = j
    · subst q
      have hi : i < env.length := by
        have := (List.getElem?_eq_some_iff.mp h).1
        rwa [List.length_set] at this
      rw [List.getElem?_set_self hi] at h
      cases h
    · rw [List.getElem?_set_ne q] at h ⊢
      exact I.sh j e h
  · by_cases q : i = j
    · subst q
      have hi : i < env.length := by
        have := (List.getElem?_eq_some_iff.mp h).1
        rwa [List.length_set] at this
      rw [List.getElem?_set_self hi] at h
      cases h
      exact ⟨p, ho, List.getElem?_set_self (by rw [I.len]; exact hi), h0, hb, hh, r⟩
    · rw [List.getElem?_set_ne q] at h ⊢
      exact I.ow j ys h
  · by_cases qj : i = j
    · by_cases ql : i = l
      · exact qj.symm.trans ql
      · subst qj
        have hi : i < env.length := by
          have := (List.getElem?_eq_some_iff.mp h1).1
          rwa [List.length_set] at this
        rw [List.getElem?_set_self (by rw [I.len]; exact hi)] at h3
        cases h3
        rw [List.getElem?_set_ne ql] at h2 h4
        exact absurd h4 (new l zs h2)
    · by_cases ql : i = l
      · subst ql
        have hi : i < env.length := by
          have := (List.getElem?_eq_some_iff.mp h2).1
          rwa [List.length_set] at this
        rw [List.getElem?_set_self (by rw [I.len]; exact hi)] at h4
        cases h4
        rw [List.getElem?_set_ne qj] at h1 h3
        exact absurd h3 (new j ys h1)
      · rw [List.getElem?_set_ne qj] at h1 h3
        rw [List.getElem?_set_ne ql] at h2 h4
        exact I.dj j l ys zs q h1 h2 h3 h4
/-- a thing of one's own changes -/
theorem SI.mut (I : SI K B0 H0 env σ B H) {o o' : Ob} {ho : HO} {p : Addr} {i : Nat} (he : env[i]? = some (.ow o)) (hs : σ[i]? = some (some (.ref p))) (r : RepO K B o' ho) : SI K B0 H0 (env.set i (.ow o')) σ B (upd H p ho) := by
  obtain ⟨p', vs', e1, h0, hb, hh, _⟩ := I.ow i o he
  rw [hs] at e1
  cases e1
  have hi : i < env.length := (List.getElem?_eq_some_iff.mp he).1
  refine ⟨by rw [List.length_set]; exact I.len, I.xb, I.xh.mut h0, fun a o e => ?_, I.off, fun j e h => ?_, fun j zs h => ?_, fun j l zs ws q h1 h2 h3 h4 => ?_⟩
  · rw [upd_ne (ne_of_none e hb)]
    exact I.xs a o e
  · by_cases q : i = j
    · subst q
      rw [List.getElem?_set_self hi] at h
      cases h
    · rw [List.getElem?_set_ne q] at h
      exact I.sh j e h
  · by_cases q : i = j
    · subst q
      rw [List.getElem?_set_self hi] at h
      cases h
      exact ⟨p, ho, hs, h0, hb, upd_same, r⟩
    · rw [List.getElem?_set_ne q] at h
      obtain ⟨p2, vs2, e2, g0, gb, gh, r2⟩ := I.ow j zs h
      refine ⟨p2, vs2, e2, g0, gb, ?_, r2⟩
      rw [upd_ne (fun z => q (I.dj i j o zs p he h hs (by rw [← z]; exact e2)))]
      exact gh
  · have g : ∀ (m : Nat) (us : Ob), (env.set i (.ow o'))[m]? = some (Cl.ow us) → ∃ us', env[m]? = some (Cl.ow us') := fun m us h => by
      by_cases q : i = m
      · subst q; exact ⟨o, he⟩
      · rw [List.getElem?_set_ne q] at h; exact ⟨us, h⟩
    obtain ⟨u1, g1⟩ := g j zs h1
    obtain ⟨u2, g2⟩ := g l ws h2
    exact I.dj j l u1 u2 q g1 g2 h3 h4
/-- a thing of one's own is given away -/
theorem SI.freeze (I : SI K B0 H0 env σ B H) {o : Ob} {i : Nat} (he : env[i]? = some (.ow o)) : ∃ B', SI K B0 H0 (env.set i (.sh o.d)) σ B' H ∧ Ex B B' := by
  obtain ⟨p, ho, e1, h0, hb, hh, r⟩ := I.ow i o he
  have hi : i < env.length := (List.getElem?_eq_some_iff.mp he).1
  have sb : Ex B (upd B p ho) := Ex.new hb
  refine ⟨upd B p ho, ⟨by rw [List.length_set]; exact I.len, I.xb.trans sb, I.xh, fun a o e => ?_, fun a g1 g2 => ?_, fun j e h => ?_, fun j zs h => ?_, fun j l zs ws q h1 h2 h3 h4 => ?_⟩, sb⟩
  · by_cases q : a = p
    · subst q; rw [upd_same] at e; rw [hh]; exact e
    · rw [upd_ne q] at e; exact I.xs a o e
  · by_cases q : a = p
    · subst q; exact absurd h0 g2
    · rw [upd_ne q]; exact I.off a g1 g2
  · by_cases q : i = j
    · subst q
      rw [List.getElem?_set_self hi] at h
      cases h
      exact ⟨_, e1, (r.mono sb).rep upd_same⟩
    · rw [List.getElem?_set_ne q] at h
      obtain ⟨v, e2, r2⟩ := I.sh j e h
      exact ⟨v, e2, r2.mono sb⟩
  · by_cases q : i = j
    · subst q
      rw [List.getElem?_set_self hi] at h
      cases h
    · rw [List.getElem?_set_ne q] at h
      obtain ⟨p2, vs2, e2, g0, gb, gh, r2⟩ := I.ow j zs h
      refine ⟨p2, vs2, e2, g0, ?_, gh, r2.mono sb⟩
      rw [upd_ne (fun z => q (I.dj i j o zs p he h e1 (by rw [← z]; exact e2)))]
      exact gb
  · have g : ∀ (m : Nat) (us : Ob), (env.set i (.sh o.d))[m]? = some (Cl.ow us) → env[m]? = some (Cl.ow us) := fun m us h => by
      by_cases q : i = m
      · subst q; rw [List.getElem?_set_self hi] at h; cases h
      · rw [List.getElem?_set_ne q] at h; exact h
    exact I.dj j l zs ws q (g j zs h1) (g l ws h2) h3 h4
/-- forgetting -/
theorem SI.drop (I : SI K B0 H0 env σ B H) (i : Nat) (v : Option V) : SI K B0 H0 (env.set i .un) (σ.set i v) B H := by
  refine ⟨by rw [List.length_set, List.length_set]; exact I.len, I.xb, I.xh, I.xs, I.off, fun j e h => ?_, fun j xs h => ?_, fun j l xs ys p h1 h2 h3 h4 => ?_⟩
  · by_cases q : i = j
    · subst q
      have hi : i < env.length := by
        have := (List.getElem?_eq_some_iff.mp h).1
        rwa [List.length_set] at this
      rw [List.getElem?_set_self hi] at h
      cases h
    · rw [List.getElem?_set_ne q] at h ⊢
      exact I.sh j e h
  · by_cases q : i = j
    · subst q
      have hi : i < env.length := by
        have := (List.getElem?_eq_some_iff.mp h).1
        rwa [List.length_set] at this
      rw [List.getElem?_set_self hi] at h
      cases h
    · rw [List.getElem?_set_ne q] at h ⊢
      exact I.ow j xs h
  · have nj : i ≠ j := fun q => by
      subst q
      have hi : i < env.length := by
        have := (List.getElem?_eq_some_iff.mp h1).1
        rwa [List.length_set] at this
      rw [List.getElem?_set_self hi] at h1
      cases h1
    have nl : i ≠ l := fun q => by
      subst q
      have hi : i < env.length := by
        have := (List.getElem?_eq_some_iff.mp h2).1
        rwa [List.length_set] at this
      rw [List.getElem?_set_self hi] at h2
      cases h2
    rw [List.getElem?_set_ne nj] at h1 h3
    rw [List.getElem?_set_ne nl] at h2 h4
    exact I.dj j l xs ys p h1 h2 h3 h4
/-- two lists of one's own that are new stand apart -/
theorem SI.newOw (I : SI K B0 H0 env σ B H) {p : Addr} (hp : H p = none) (j : Nat) (ys : Ob) (h : env[j]? = some (Cl.ow ys)) : σ[j]? ≠ some (some (V.ref p)) := fun z => by
  obtain ⟨q, vs, e1, _, _, hh, _⟩ := I.ow j ys h
  rw [z] at e1
  cases e1
  rw [hp] at hh
  cases hh
end

/-! ### statements -/
inductive SR where
  | nx (env : En) | rt (d : D) | rf (o : Ob) | bk (env : En) | ct (env : En) | exc (env : En) (c : Str) (fn : List Str) (fv : List D) | stuck
def PostS (K : PySem.W.Frag) (W : WX) (B0 H0 : Hp) (r : SR) (D : Ends) (T : Prop) : Prop := match r with
  | .nx env => (∀ σ' B' H', SI K B0 H0 env σ' B' H' → D.nx σ' H') → T
  | .bk env => (∀ σ' B' H', SI K B0 H0 env σ' B' H' → D.bk σ' H') → T
  | .ct env => (∀ σ' B' H', SI K B0 H0 env σ' B' H' → D.ct σ' H') → T
  | .rt d => (∀ v B' H', Xt B0 H0 B' H' → Rep K B' d v → D.rt v H') → T
  | .rf o => (∀ p ho B' H', Xt B0 H0 B' H' → H0 p = none → B' p = none → H' p = some ho → RepO K B' o ho → D.rt (.ref p) H') → T
  | .exc env c fn fv => (∀ σ' B' H' od, SI K B0 H0 env σ' B' H' → XR K B' fn fv od → W (.ref (He.ga K c)) od σ' H') → T
  | .stuck => True
def SimS (K : PySem.W.Frag) (W : WX) (t : TS) (m : En → SR) : Prop := ∀ B0 H0 env σ B H, SI K B0 H0 env σ B H → ∀ D : Ends, PostS K W B0 H0 (m env) D (t D σ H)
structure SS (X : Cx) (W : WX) (st : Stmt) (m : En → SR) : Prop where
  ex : ∃ t, PS X st t ∧ SimS X.K W t m
structure SB (X : Cx) (W : WX) (st : List Stmt) (m : En → SR) : Prop where
  ex : ∃ t, PSs X st t ∧ SimS X.K W t m
/-- the same wishes but for what follows -/
theorem PostS.wrap {K W B0 H0 r} {D : Ends} {T T' : Prop} (h : PostS K W B0 H0 r D T) (k : T → T') : PostS K W B0 H0 r D T' := by
  unfold PostS at h ⊢
  cases r <;> first | trivial | exact fun z => k (h z)
/-- an expression ahead of a statement -/
def mS {α : Type} (m : En → Res α) (f : α → En → SR) : En → SR := fun env => match m env with
  | .ok a => f a env
  | .exc c fn fv => .exc env c fn fv
  | .stuck => .stuck
theorem SimS.of {α β : Type} {R : RG α β} {K W} {t : L2.St → Hp → (β → Hp → Prop) → Prop} {m : En → Res α} {f : α → En → SR} {u : β → TS} (h : Sim R K W t m)
    (k : ∀ B0 H0 env σ B H a v B1 H1, SI K B0 H0 env σ B H → Xt B H B1 H1 → SI K B0 H0 env σ B1 H1 → R K H B1 H1 a v → ∀ D : Ends, PostS K W B0 H0 (f a env) D (u v D σ H1)) :
    SimS K W (fun D σ H => t σ H fun v H1 => u v D σ H1) (mS m f) := by
  intro B0 H0 env σ B H I D
  unfold mS
  cases e : m env with
  | stuck => trivial
  | exc c fn fv =>
    intro q
    exact h.exc I e fun od B' H' x r => q σ B' H' od (I.xt x) r
  | ok a =>
    have key : ∀ v B1 H1, Xt B H B1 H1 → SI K B0 H0 env σ B1 H1 → R K H B1 H1 a v → PostS K W B0 H0 (f a env) D (u v D σ H1) := fun v B1 H1 x I1 r => k B0 H0 env σ B H a v B1 H1 I x I1 r D
    show PostS K W B0 H0 (f a env) D _
    cases e2 : f a env with
    | stuck => trivial
    | nx env' => exact fun q => h.ok I e fun v B1 H1 x I1 r => by have z := key v B1 H1 x I1 r; rw [e2] at z; exact z q
    | rt d => exact fun q => h.ok I e fun v B1 H1 x I1 r => by have z := key v B1 H1 x I1 r; rw [e2] at z; exact z q
    | rf xs => exact fun q => h.ok I e fun v B1 H1 x I1 r => by have z := key v B1 H1 x I1 r; rw [e2] at z; exact z q
    | bk env' => exact fun q => h.ok I e fun v B1 H1 x I1 r => by have z := key v B1 H1 x I1 r; rw [e2] at z; exact z q
    | ct env' => exact fun q => h.ok I e fun v B1 H1 x I1 r => by have z := key v B1 H1 x I1 r; rw [e2] at z; exact z q
    | exc env' c fn fv => exact fun q => h.ok I e fun v B1 H1 x I1 r => by have z := key v B1 H1 x I1 r; rw [e2] at z; exact z q
/-! blocks -/
def mNx : En → SR := fun env => .nx env
def mSeq (m n : En → SR) : En → SR := fun env => match m env with
  | .nx env' => n env'
  | r => r
theorem sims_seq {K W t u m n} (h : SimS K W t m) (k : SimS K W u n) : SimS K W (tSeq t u) (mSeq m n) := by
  intro B0 H0 env σ B H I D
  have z := h B0 H0 env σ B H I { D with nx := u D }
  unfold mSeq
  cases e : m env with
  | nx env' =>
    rw [e] at z
    show PostS K W B0 H0 (n env') D (t { D with nx := u D } σ H)
    have key : ∀ σ' B' H', SI K B0 H0 env' σ' B' H' → PostS K W B0 H0 (n env') D (u D σ' H') := fun σ' B' H' I' => k B0 H0 env' σ' B' H' I' D
    cases e2 : n env' with
    | stuck => trivial
    | nx _ => exact fun q => z fun σ' B' H' I' => by have y := key σ' B' H' I'; rw [e2] at y; exact y q
    | rt _ => exact fun q => z fun σ' B' H' I' => by have y := key σ' B' H' I'; rw [e2] at y; exact y q
    | rf _ => exact fun q => z fun σ' B' H' I' => by have y := key σ' B' H' I'; rw [e2] at y; exact y q
    | bk _ => exact fun q => z fun σ' B' H' I' => by have y := key σ' B' H' I'; rw [e2] at y; exact y q
    | ct _ => exact fun q => z fun σ' B' H' I' => by have y := key σ' B' H' I'; rw [e2] at y; exact y q
    | exc _ _ _ _ => exact fun q => z fun σ' B' H' I' => by have y := key σ' B' H' I'; rw [e2] at y; exact y q
  | stuck => trivial
  | rt _ => rw [e] at z; exact z
  | rf _ => rw [e] at z; exact z
  | bk _ => rw [e] at z; exact z
  | ct _ => rw [e] at z; exact z
  | exc _ _ _ _ => rw [e] at z; exact z
section
variable {X : Cx} {W : WX} {st : Stmt} {rest : List Stmt} {m n : En → SR} {e : Expr} {pos pos' : Pos}
theorem sb_nil : SB X W [] mNx := ⟨_, pss_nil, fun B0 H0 env σ B H I D q => q σ B H I⟩
theorem sb_cons (h : SS X W st m) (k : SB X W rest n) : SB X W (st :: rest) (mSeq m n) := let ⟨_, p, s⟩ := h.ex; let ⟨_, q, r⟩ := k.ex; ⟨_, pss_cons p q, sims_seq s r⟩
theorem sb_one (h : SS X W st m) : SB X W [st] m := let ⟨_, p, s⟩ := h.ex; ⟨_, pss_one p, s⟩
theorem ss_pass : SS X W (.Pass pos) mNx := ⟨_, ps_pass, fun B0 H0 env σ B H I D q => q σ B H I⟩
theorem ss_break : SS X W (.Break pos) (fun env => .bk env) := ⟨_, ps_break, fun B0 H0 env σ B H I D q => q σ B H I⟩
theorem ss_cont : SS X W (.Continue pos) (fun env => .ct env) := ⟨_, ps_continue, fun B0 H0 env σ B H I D q => q σ B H I⟩
/-! a ghost: lists of one's own are given away -/
def frz1 (i : Nat) (env : En) : En := match env[i]? with
  | some (.ow o) => env.set i (.sh o.d)
  | _ => env
def mFrz (i : Nat) (m : En → SR) : En → SR := fun env => m (frz1 i env)
theorem sims_frz {K t} (i : Nat) (h : SimS K W t m) : SimS K W t (mFrz i m) := by
  intro B0 H0 env σ B H I D
  unfold mFrz frz1
  cases e : env[i]? with
  | none => exact h B0 H0 env σ B H I D
  | some c =>
    cases c with
    | un => exact h B0 H0 env σ B H I D
    | sh d => exact h B0 H0 env σ B H I D
    | ow xs =>
      obtain ⟨B', I', _⟩ := I.freeze e
      exact h B0 H0 _ σ B' H I' D
theorem ss_frz (i : Nat) (h : SS X W st m) : SS X W st (mFrz i m) := let ⟨_, p, s⟩ := h.ex; ⟨_, p, sims_frz i s⟩
/-! stores -/
def mSet (i : Nat) (m : En → Res D) : En → SR := mS m fun d env => .nx (env.set i (.sh d))
def mSetF (i : Nat) (m : En → Res (List D)) : En → SR := mS m fun xs env => .nx (env.set i (.ow (.lst xs)))
variable {me : En → Res D} {ml : En → Res (List D)}
theorem ss_set (i : Nat) {x : Str} (hN : X.N.Nodup) (he : SE X W RP e me) (hi : X.N[i]? = some x := by rfl) (hx : Loc X.env.scope x := by first | exact Or.inl rfl | exact Or.inr rfl) (hs : swapsWith e (some (.Name x pos')) pos.line X.env = pure false := by rfl) (hf : X.fn x = true ∨ X.env.scope.names.lookup x = some .local := by first | exact .inl rfl | exact .inr rfl | assumption) :
    SS X W (.Assign [.Name x pos'] e pos) (mSet i me) := by
  obtain ⟨t, p, s⟩ := he.ex
  refine ⟨_, ps_set hN hi hx p hs hf, ?_⟩
  refine SimS.of (R := RP) (u := fun v D σ H => gName i v σ H D.nx) s fun B0 H0 env σ B H a v B1 H1 _ x I r D => ?_
  exact fun q => q _ B1 H1 (I.setSh i r)
theorem ss_setF (i : Nat) {x : Str} (hN : X.N.Nodup) (he : SE X W RF e ml) (hi : X.N[i]? = some x := by rfl) (hx : Loc X.env.scope x := by first | exact Or.inl rfl | exact Or.inr rfl) (hs : swapsWith e (some (.Name x pos')) pos.line X.env = pure false := by rfl) (hf : X.fn x = true ∨ X.env.scope.names.lookup x = some .local := by first | exact .inl rfl | exact .inr rfl | assumption) :
    SS X W (.Assign [.Name x pos'] e pos) (mSetF i ml) := by
  obtain ⟨t, p, s⟩ := he.ex
  refine ⟨_, ps_set hN hi hx p hs hf, ?_⟩
  refine SimS.of (R := RF) (u := fun v D σ H => gName i v σ H D.nx) s fun B0 H0 env σ B H a v B1 H1 I0 x I r D => ?_
  obtain ⟨p, vs, e1, h1, h2, h3, h4⟩ := r
  subst e1
  refine fun q => q _ B1 H1 (I.setOw (o := .lst a) i (I0.xh.free h1) h2 h3 (mk_repO h4) fun j ys hj => ?_)
  exact I0.newOw h1 j ys hj
/-! returns -/
def mRet (m : En → Res D) : En → SR := mS m fun d _ => .rt d
def mRetF (m : En → Res (List D)) : En → SR := mS m fun xs _ => .rf (.lst xs)
def mRetOw (i : Nat) : En → SR := fun env => match env[i]? with
  | some (.ow o) => .rf o
  | _ => .stuck
theorem ss_ret (he : SE X W RP e me) : SS X W (.Return (some e) pos) (mRet me) := by
  obtain ⟨t, p, s⟩ := he.ex
  refine ⟨_, ps_ret p, ?_⟩
  refine SimS.of (R := RP) (u := fun v D σ H => D.rt v H) s fun B0 H0 env σ B H a v B1 H1 _ x I r D => ?_
  exact fun q => q _ B1 H1 I.xt0 r
theorem ss_retF (he : SE X W RF e ml) : SS X W (.Return (some e) pos) (mRetF ml) := by
  obtain ⟨t, p, s⟩ := he.ex
  refine ⟨_, ps_ret p, ?_⟩
  refine SimS.of (R := RF) (u := fun v D σ H => D.rt v H) s fun B0 H0 env σ B H a v B1 H1 I0 x I r D => ?_
  obtain ⟨p, vs, e1, h1, h2, h3, h4⟩ := r
  subst e1
  exact fun q => q p (.lst vs) B1 H1 I.xt0 (I0.xh.free h1) h2 h3 (mk_repO h4)
theorem ss_retOw (i : Nat) {x : Str} {np : Pos} (hN : X.N[i]? = some x := by rfl) (hv : Vis X.env.scope x := by first | exact Or.inl rfl | exact Or.inr (Or.inl rfl) | exact Or.inr (Or.inr rfl)) (hd : (x == ("__debug__" : Str)) = false := by decide)
    (hcd : (x == ("__classdict__" : Str)) = false := by decide) : SS X W (.Return (some (.Name x np)) pos) (mRetOw i) := by
  refine ⟨_, ps_ret (pe_var hN hv hd hcd), ?_⟩
  intro B0 H0 env σ B H I D
  unfold mRetOw
  cases e : env[i]? with
  | none => trivial
  | some c =>
    cases c with
    | un => trivial
    | sh d => trivial
    | ow xs =>
      obtain ⟨p, vs, e1, h0, hb, hh, r⟩ := I.ow i xs e
      exact fun q => ⟨_, e1, q p vs B H I.xt0 h0 hb hh r⟩
theorem ss_retN : SS X W (.Return none pos) (fun _ => .rt .non) := ⟨_, ps_retN, fun B0 H0 env σ B H I D q => q .non B H I.xt0 rfl⟩
theorem ss_expr {α : Type} {R : RG α V} {m : En → Res α} (he : SE X W R e m) (hs : swapsWith e none pos.line X.env = pure false := by rfl) : SS X W (.Expr e pos) (mS m fun _ env => .nx env) := by
  obtain ⟨t, p, s⟩ := he.ex
  refine ⟨_, ps_expr p hs, ?_⟩
  refine SimS.of (R := R) (u := fun v D σ H => D.nx σ H) s fun B0 H0 env σ B H a v B1 H1 _ x I r D => ?_
  exact fun q => q _ B1 H1 I
/-! if -/
def mIfS (mt : En → Res Bool) (m n : En → SR) : En → SR := mS mt fun c env => if c then m env else n env
theorem ss_if {c : Expr} {a b : List Stmt} {mt : En → Res Bool} (hc : ST X W c mt) (ha : SB X W a m) (hb : SB X W b n) : SS X W (.If c a b pos) (mIfS mt m n) := by
  obtain ⟨t, p, s⟩ := hc.ex
  obtain ⟨ta, pa, sa⟩ := ha.ex
  obtain ⟨tb, pb, sb⟩ := hb.ex
  refine ⟨_, ps_if p pa pb, ?_⟩
  refine SimS.of (R := RB) (u := fun k D σ H => if k = true then ta D σ H else tb D σ H) s fun B0 H0 env σ B H k v B1 H1 _ x I r D => ?_
  cases r
  cases k with
  | true => exact sa B0 H0 env σ B1 H1 I D
  | false => exact sb B0 H0 env σ B1 H1 I D
end
end Sm

set_option autoImplicit true
set_option Elab.async false
set_option linter.all false
set_option maxRecDepth 100000
set_option maxHeartbeats 4000000
namespace Sm
open PySem PySem.Spec PyProof.Rows L2

/-- what is wished of an end -/
def Wish (K : PySem.W.Frag) (W : WX) (B0 H0 : Hp) (r : SR) (D : Ends) : Prop := match r with
  | .nx env => ∀ σ' B' H', SI K B0 H0 env σ' B' H' → D.nx σ' H'
  | .bk env => ∀ σ' B' H', SI K B0 H0 env σ' B' H' → D.bk σ' H'
  | .ct env => ∀ σ' B' H', SI K B0 H0 env σ' B' H' → D.ct σ' H'
  | .rt d => ∀ v B' H', Xt B0 H0 B' H' → Rep K B' d v → D.rt v H'
  | .rf o => ∀ p ho B' H', Xt B0 H0 B' H' → H0 p = none → B' p = none → H' p = some ho → RepO K B' o ho → D.rt (.ref p) H'
  | .exc env c fn fv => ∀ σ' B' H' od, SI K B0 H0 env σ' B' H' → XR K B' fn fv od → W (.ref (He.ga K c)) od σ' H'
  | .stuck => False
theorem postS_of {K W B0 H0 r} {D : Ends} {T : Prop} (h : Wish K W B0 H0 r D → T) : PostS K W B0 H0 r D T := by
  unfold PostS
  unfold Wish at h
  cases r <;> first | trivial | exact h
theorem PostS.to {K W B0 H0 r} {D : Ends} {T : Prop} (h : PostS K W B0 H0 r D T) (w : Wish K W B0 H0 r D) : T := by
  unfold PostS at h
  unfold Wish at w
  cases r <;> first | exact h w | exact w.elim
theorem SI.rebase {K B0 H0 env σ B H} (I : SI K B0 H0 env σ B H) : SI K B H0 env σ B H := ⟨I.len, Ex.refl _, I.xh, I.xs, fun _ h _ => h, I.sh, I.ow, I.dj⟩
theorem SI.unbase {K B0 H0 env σ B H env' σ' B' H'} (I : SI K B0 H0 env σ B H) (J : SI K B H0 env' σ' B' H') : SI K B0 H0 env' σ' B' H' :=
  ⟨J.len, I.xb.trans J.xb, J.xh, J.xs, fun a h1 h2 => J.off a (I.off a h1 h2) h2, J.sh, J.ow, J.dj⟩
theorem SI.unbaseX {K B0 H0 env σ B H B' H'} (I : SI K B0 H0 env σ B H) (J : Xt B H0 B' H') : Xt B0 H0 B' H' :=
  ⟨I.xb.trans J.b, J.h, J.s, fun a h1 h2 => J.off a (I.off a h1 h2) h2⟩
theorem Wish.rebase {K W B0 H0 env σ B H r} {D : Ends} (I : SI K B0 H0 env σ B H) (w : Wish K W B0 H0 r D) : Wish K W B H0 r D := by
  unfold Wish at w ⊢
  cases r with
  | nx e => exact fun σ' B' H' J => w σ' B' H' (I.unbase J)
  | bk e => exact fun σ' B' H' J => w σ' B' H' (I.unbase J)
  | ct e => exact fun σ' B' H' J => w σ' B' H' (I.unbase J)
  | rt d => exact fun v B' H' J => w v B' H' (I.unbaseX J)
  | rf d => exact fun p v B' H' J => w p v B' H' (I.unbaseX J)
  | exc e c fn fv => exact fun σ' B' H' od J => w σ' B' H' od (I.unbase J)
  | stuck => exact w

/-- only these slots may differ -/
def Dif (sl : List Nat) (σ σ2 : L2.St) : Prop := ∀ vs : List Nat, (∀ i ∈ sl, i ∈ vs) → wipe σ2 vs = wipe σ vs
theorem wipe_get (τ : L2.St) (j : Nat) : ∀ vs : List Nat, (wipe τ vs)[j]? = if j ∈ vs ∧ j < τ.length then some none else τ[j]?
  | [] => by simp [wipe]
  | a :: r => by
    show ((wipe τ r).set a none)[j]? = _
    by_cases h3 : a = j
    · subst h3
      by_cases h2 : a < τ.length
      · rw [List.getElem?_set_self (by rw [wipe_length]; exact h2), if_pos ⟨List.mem_cons_self, h2⟩]
      · rw [if_neg (fun z => h2 z.2), List.getElem?_eq_none (by rw [List.length_set, wipe_length]; omega), List.getElem?_eq_none (by omega)]
    · rw [List.getElem?_set_ne h3, wipe_get τ j r]
      by_cases h1 : j ∈ r ∧ j < τ.length
      · rw [if_pos h1, if_pos ⟨List.mem_cons_of_mem _ h1.1, h1.2⟩]
      · rw [if_neg h1, if_neg fun z => h1 ⟨(List.mem_cons.mp z.1).resolve_left (fun q => h3 q.symm), z.2⟩]
theorem wipe_set {σ : L2.St} {i : Nat} {v : Option V} {vs : List Nat} (hm : i ∈ vs) : wipe (σ.set i v) vs = wipe σ vs := by
  apply List.ext_getElem?
  intro j
  rw [wipe_get, wipe_get, List.length_set]
  by_cases h : j ∈ vs ∧ j < σ.length
  · rw [if_pos h, if_pos h]
  · rw [if_neg h, if_neg h]
    by_cases q : i = j
    · subst q
      have hl : ¬ i < σ.length := fun z => h ⟨hm, z⟩
      rw [List.getElem?_eq_none (by rw [List.length_set]; omega), List.getElem?_eq_none (by omega)]
    · rw [List.getElem?_set_ne q]
theorem Dif.refl {sl σ} : Dif sl σ σ := fun _ _ => rfl
theorem Dif.trans {sl sl' σ σ1 σ2} (a : Dif sl σ σ1) (b : Dif sl' σ1 σ2) : Dif (sl ++ sl') σ σ2 := fun vs h => (b vs fun i hi => h i (List.mem_append_right _ hi)).trans (a vs fun i hi => h i (List.mem_append_left _ hi))
/-! ### what is walked -/
structure Walk (K : PySem.W.Frag) (Bs : Hp) (J : It) (g : TG) (sl : List Nat) (bs : List (En → Option En)) : Prop where
  go : ∀ i B' H', i < bs.length → Ex Bs B' → Ex B' H' → J.go i H'
  stop : ∀ B' H', Ex Bs B' → Ex B' H' → J.stop bs.length H'
  step : ∀ i b B0 H0 env env1 σ B' H', bs[i]? = some b → b env = some env1 → SI K B0 H0 env σ B' H' → Ex Bs B' → ∀ x H2, J.yld i H' x H2 → ∀ Q : L2.St → Hp → Prop, (∀ σ2 B2 H3, SI K B0 H0 env1 σ2 B2 H3 → Xt B' H' B2 H3 → Dif sl σ σ2 → Q σ2 H3) → g x σ H2 Q
def RI (g : TG) (sl : List Nat) : RG (List (En → Option En)) It := fun K _ B' _ bs J => Walk K B' J g sl bs
/-- .. what is walked may be a list of one's own: it stands while nothing of H1 changes -/
structure WalkT (K : PySem.W.Frag) (Bs H1 : Hp) (J : It) (g : TG) (sl : List Nat) (bs : List (En → Option En)) : Prop where
  go : ∀ i B' H', i < bs.length → Ex Bs B' → Ex H1 H' → Ex B' H' → J.go i H'
  stop : ∀ B' H', Ex Bs B' → Ex H1 H' → Ex B' H' → J.stop bs.length H'
  step : ∀ i b B0 H0 env env1 σ B' H', bs[i]? = some b → b env = some env1 → SI K B0 H0 env σ B' H' → Ex Bs B' → Ex H1 H' → ∀ x H2, J.yld i H' x H2 → ∀ Q : L2.St → Hp → Prop, (∀ σ2 B2 H3, SI K B0 H0 env1 σ2 B2 H3 → Xt B' H' B2 H3 → Dif sl σ σ2 → Q σ2 H3) → g x σ H2 Q
def RIT (g : TG) (sl : List Nat) : RG (List (En → Option En)) It := fun K _ B' H' bs J => WalkT K B' H' J g sl bs
theorem Walk.t {K Bs H1 J g sl bs} (w : Walk K Bs J g sl bs) : WalkT K Bs H1 J g sl bs :=
  ⟨fun i B' H' h1 h2 _ h3 => w.go i B' H' h1 h2 h3, fun B' H' h1 _ h2 => w.stop B' H' h1 h2, fun i b B0 H0 env env1 σ B' H' e1 e2 I x _ => w.step i b B0 H0 env env1 σ B' H' e1 e2 I x⟩
def loopM (body : En → SR) : List (En → Option En) → En → SR
  | [], env => .nx env
  | b :: bs, env => match b env with
    | none => .stuck
    | some env1 => match body env1 with
      | .nx env2 => loopM body bs env2
      | .ct env2 => loopM body bs env2
      | .bk env2 => .nx env2
      | r => r
def mFor (mi : En → Res (List (En → Option En))) (body : En → SR) : En → SR := mS mi fun bs env => loopM body bs env
theorem sims_for {K W wi g sl tb mi body} (hi : Sim (RI g sl) K W wi mi) (hb : SimS K W tb body) : SimS K W (tFor wi g tb) (mFor mi body) := by
  refine SimS.of (R := RI g sl) (u := fun J D σ H1 => ∃ W : Nat → Nat → L2.St → Hp → Prop, (∃ m, W 0 m σ H1) ∧ ∀ i m σ H, W i m σ H →
    (J.stop i H ∧ D.nx σ H) ∨ (J.go i H ∧ ∃ N : L2.St → Hp → Prop, (∀ σ' H', N σ' H' → ∃ m', m' < m ∧ W (i + 1) m' σ' H') ∧ ∀ x H', J.yld i H x H' → g x σ H' fun σ2 H2 => tb { D with nx := N, ct := N, bk := D.nx } σ2 H2))
    hi fun B0 H0 env σ B H bs J B1 H1 _ x I wk D => postS_of fun w0 => ?_
  have w := w0.rebase I
  generalize hr : loopM body bs env = r at w
  refine ⟨fun i m σ' H' => m = bs.length - i ∧ i ≤ bs.length ∧ ∃ env' B', SI K B1 H0 env' σ' B' H' ∧ loopM body (bs.drop i) env' = r, ⟨bs.length, by omega, Nat.zero_le _, env, B1, I.rebase, by rw [List.drop_zero]; exact hr⟩, ?_⟩
  rintro i m σ' H' ⟨rfl, hi, env', B', I', e⟩
  by_cases hlt : i < bs.length
  · refine .inr ⟨wk.go i B' H' hlt I'.xb I'.xs, fun σ2 H2 => ∃ env2 B2, SI K B1 H0 env2 σ2 B2 H2 ∧ loopM body (bs.drop (i + 1)) env2 = r, fun σ2 H2 ⟨env2, B2, I2, e2⟩ => ⟨bs.length - (i + 1), by omega, rfl, hlt, env2, B2, I2, e2⟩, fun y H2 hy => ?_⟩
    have hg : bs[i]? = some bs[i] := List.getElem?_eq_getElem hlt
    have hd : bs.drop i = bs[i] :: bs.drop (i + 1) := List.drop_eq_getElem_cons hlt
    rw [hd] at e
    unfold loopM at e
    cases e1 : bs[i] env' with
    | none =>
      rw [e1] at e
      have e' : SR.stuck = r := e
      subst e'
      exact w.elim
    | some env1 =>
      rw [e1] at e
      refine wk.step i bs[i] B1 H0 env' env1 σ' B' H' hg e1 I' I'.xb y H2 hy _ fun σ2 B2 H3 I2 _ _ => ?_
      refine (hb B1 H0 env1 σ2 B2 H3 I2 _).to ?_
      cases e2 : body env1 with
      | nx env2 =>
        simp only [e2] at e
        exact fun σ3 B3 H4 I3 => ⟨env2, B3, I3, e⟩
      | ct env2 =>
        simp only [e2] at e
        exact fun σ3 B3 H4 I3 => ⟨env2, B3, I3, e⟩
      | bk env2 =>
        simp only [e2] at e
        subst e
        exact w
      | rt d =>
        simp only [e2] at e
        subst e
        exact w
      | rf d =>
        simp only [e2] at e
        subst e
        exact w
      | exc en c fn fv =>
        simp only [e2] at e
        subst e
        exact w
      | stuck =>
        simp only [e2] at e
        subst e
        exact w.elim
  · have ei : i = bs.length := by omega
    subst ei
    refine .inl ⟨wk.stop B' H' I'.xb I'.xs, ?_⟩
    rw [List.drop_length] at e
    have e' : SR.nx env' = r := e
    subst e'
    exact w σ' B' H' I'
structure SIt (X : Cx) (W : WX) (tg iter : Expr) (mi : En → Res (List (En → Option En))) : Prop where
  ex : ∃ (g : TG) (sl : List Nat) (wi : TI), PG X tg g ∧ PI X tg iter wi ∧ Sim (RI g sl) X.K W wi mi
theorem ss_for {X : Cx} {W : WX} {tg iter : Expr} {body : List Stmt} {pos : Pos} {mi : En → Res (List (En → Option En))} {m : En → SR} (hp : PassesOwn (model X.prog X.w) X.A X.env X.xe) (hc : X.calm = true) (hi : SIt X W tg iter mi) (hb : SB X W body m)
    (hs : ∀ x, foldedSetIterable iter X.env x = pure x := by intro _; rfl) : SS X W (.For tg iter body [] pos) (mFor mi m) := by
  obtain ⟨g, sl, wi, pg, pi, s⟩ := hi.ex
  obtain ⟨tb, pb, sb⟩ := hb.ex
  exact ⟨_, ps_for hp hc pi pg pb hs, sims_for s sb⟩

/-! ### lists, tuples, texts -/
def itemsD : D → Res (List D)
  | .lst xs => .ok xs
  | .tup xs => .ok xs
  | .scr ns => .ok (ns.map .int)
  | .str z => .ok (z.cps.toList.map fun c => .str ⟨#[c]⟩)
  | _ => .stuck
def iSeq (K : PySem.W.Frag) (tl : TE) : TI := fun σ H R => tl σ H fun x H1 => (∃ a, x = .ref a ∧ (∃ xs, SqL K H1 a xs) ∧ R (Itl K a) H1) ∨ (∃ a, x = .ref a ∧ (∃ xs, SqT K H1 a xs) ∧ R (Itt K a) H1) ∨ ∃ z, x = .str z ∧ R (Its z) H1
theorem pi_seq {X : Cx} {tg l : Expr} {tl : TE} (hl : PE X l tl) : PI X tg l (iSeq X.K tl) := by
  refine ⟨fun pins s σ H R I h => ?_⟩
  refine thn (hl.run pins s σ H _ I h) fun v s1 ⟨x, H1, I1, r1, q1⟩ => ?_
  rcases q1 with ⟨a, e, ⟨xs, hq⟩, q⟩ | ⟨a, e, ⟨xs, hq⟩, q⟩ | ⟨z, e, q⟩
  · subst e
    cases r1
    obtain ⟨its, rv, p, hz⟩ := I1.list hq
    refine wpAny_pyIter_list p.isList ?_
    refine ⟨s1.heap.objs.size, [s1.heap.objs.size], _, _, H1, rfl, I1.kept (t' := s1.toks) fun b o e => Heap.get?_push_of_some _ e, turn_list a _, ⟨_, Heap.get?_push_size _ rfl, rfl, rfl⟩, fun b hb => ?_, q⟩
    have e : b = s1.heap.objs.size := by simpa using hb
    subst e
    exact I1.fpOk (Nat.le_refl _) (I1.hok.fresh (Nat.le_refl _))
  · subst e
    cases r1
    obtain ⟨its, rv, p, hz⟩ := I1.tuple hq
    refine wpAny_pyIter_tuple (show s1.heap.IsTuple a its.toArray from p) ?_
    refine ⟨s1.heap.objs.size, [s1.heap.objs.size], _, _, H1, rfl, I1.kept (t' := s1.toks) fun b o e => Heap.get?_push_of_some _ e, turn_tuple a _, ⟨_, Heap.get?_push_size _ rfl, rfl, rfl⟩, fun b hb => ?_, q⟩
    have e : b = s1.heap.objs.size := by simpa using hb
    subst e
    exact I1.fpOk (Nat.le_refl _) (I1.hok.fresh (Nat.le_refl _))
  · subst e
    obtain ⟨t, rfl⟩ := r1
    cases ha : z.cps.all (· < 128)
    · exact wpAny_pyIter_wide ha (pi_one (tk := s1.toks) I1 _ (turn_str _ z t "str_iterator" (.inr rfl)) ⟨_, Heap.get?_push_size _ rfl, rfl, rfl⟩ q)
    · exact wpAny_pyIter_ascii ha (pi_one (tk := s1.toks) I1 _ (turn_str _ z t "str_ascii_iterator" (.inl rfl)) ⟨_, Heap.get?_push_size _ rfl, rfl, rfl⟩ q)
/-- a target takes a value that stands for d -/
def TgOk (K : PySem.W.Frag) (g : TG) (f : D → En → Option En) (sl : List Nat) : Prop :=
  ∀ B0 H0 env env1 σ B H d v, SI K B0 H0 env σ B H → Rep K B d v → f d env = some env1 → ∀ Q : L2.St → Hp → Prop, (∀ σ2 B2 H3, SI K B0 H0 env1 σ2 B2 H3 → Xt B H B2 H3 → Dif sl σ σ2 → Q σ2 H3) → g v σ H Q
structure STg (X : Cx) (tg : Expr) (f : D → En → Option En) (sl : List Nat) : Prop where
  ex : ∃ g, PG X tg g ∧ TgOk X.K g f sl
def tgName (i : Nat) : D → En → Option En := fun d env => some (env.set i (.sh d))
theorem tg_name {X : Cx} (i : Nat) {x : Str} {pos : Pos} (hN : X.N.Nodup) (hi : X.N[i]? = some x := by rfl) (hx : Loc X.env.scope x := by first | exact Or.inl rfl | exact Or.inr rfl) (hf : X.fn x = true ∨ X.env.scope.names.lookup x = some .local := by first | exact .inl rfl | exact .inr rfl | assumption) :
    STg X (.Name x pos) (tgName i) [i] := ⟨_, pg_name hN hi hx hf, fun B0 H0 env env1 σ B H d v I r e Q q => by
      cases e
      exact q _ B H (I.setSh i r) (Xt.refl I.xs) fun vs h => wipe_set (h i List.mem_cons_self)⟩
/-- a, b: a tuple is taken apart -/
def tgTup : List (D → En → Option En) → D → En → Option En := fun fs d env => match d with
  | .tup xs => go fs xs env
  | _ => none
where go : List (D → En → Option En) → List D → En → Option En
  | [], [], env => some env
  | f :: fs, d :: ds, env => (f d env).bind (go fs ds)
  | _, _, _ => none
def TgsOk (K : PySem.W.Frag) (g : TGs) (fs : List (D → En → Option En)) (sl : List Nat) : Prop :=
  ∀ B0 H0 env env1 σ B H ds vs, SI K B0 H0 env σ B H → Reps K B ds vs → tgTup.go fs ds env = some env1 → ∀ Q : L2.St → Hp → Prop, (∀ σ2 B2 H3, SI K B0 H0 env1 σ2 B2 H3 → Xt B H B2 H3 → Dif sl σ σ2 → Q σ2 H3) → g vs σ H Q
structure STgs (X : Cx) (es : List Expr) (fs : List (D → En → Option En)) (sl : List Nat) : Prop where
  ex : ∃ g, PGs X es g ∧ TgsOk X.K g fs sl
theorem tgs_nil {X : Cx} : STgs X [] [] [] := ⟨_, pgs_nil, fun B0 H0 env env1 σ B H ds vs I r e Q q => by
  cases ds with
  | nil =>
    cases e
    simp only [Reps] at r
    subst r
    exact ⟨rfl, q σ B H I (Xt.refl I.xs) Dif.refl⟩
  | cons d ds => cases e⟩
theorem tgs_cons {X : Cx} {e : Expr} {es : List Expr} {f : D → En → Option En} {fs : List (D → En → Option En)} {sl sl' : List Nat} (h : STg X e f sl) (k : STgs X es fs sl') (hs : (assignEach (e :: es) X.env).map (·.2) = assign e X.env :: (assignEach es X.env).map (·.2) := by rfl) : STgs X (e :: es) (f :: fs) (sl ++ sl') := by
  obtain ⟨g, pg, ok⟩ := h.ex
  obtain ⟨gs, pgs, oks⟩ := k.ex
  refine ⟨_, pgs_cons pg pgs hs, fun B0 H0 env env1 σ B H ds vs I r e Q q => ?_⟩
  cases ds with
  | nil => cases e
  | cons d ds =>
    simp only [Reps] at r
    obtain ⟨v, r', e1, h1, h2⟩ := r
    subst e1
    have e' : (f d env).bind (tgTup.go fs ds) = some env1 := e
    cases e2 : f d env with
    | none => rw [e2] at e'; cases e'
    | some env2 =>
      rw [e2] at e'
      refine ⟨v, r', rfl, ok B0 H0 env env2 σ B H d v I h1 e2 _ fun σ2 B2 H3 I2 x d1 => ?_⟩
      exact oks B0 H0 env2 env1 σ2 B2 H3 ds r' I2 (h2.mono x.b) e' Q fun σ3 B3 H4 I3 y d2 => q σ3 B3 H4 I3 (x.trans y) (d1.trans d2)
theorem tg_tup {X : Cx} {es : List Expr} {k : Nat} {pos : Pos} {n : Nat} {fs : List (D → En → Option En)} {sl : List Nat} (hc : X.calm = true) (h : STgs X es fs sl) (hl : fs.length = n := by rfl) (hst : (assignEach es X.env).findIdx? (·.1) = none := by rfl) (hn : (assignEach es X.env).length = n := by rfl) : STg X (.Tuple es k pos) (tgTup fs) sl := by
  obtain ⟨g, pg, ok⟩ := h.ex
  refine ⟨_, pg_tup (n := n) hc pg hn hst, fun B0 H0 env env1 σ B H d v I r e Q q => ?_⟩
  cases d with
  | tup xs =>
    obtain ⟨a, vs, e1, h1, _, h2⟩ := rep_tup r
    refine ⟨a, vs, e1, I.xs.t h1, ?_, ok B0 H0 env env1 σ B H xs vs I h2 e Q q⟩
    have go : ∀ (fs : List (D → En → Option En)) (xs : List D) (env : En), tgTup.go fs xs env = some env1 → fs.length = xs.length := by
      intro fs
      induction fs with
      | nil => intro xs env h; cases xs with
        | nil => rfl
        | cons _ _ => cases h
      | cons f fs ih => intro xs env h; cases xs with
        | nil => cases h
        | cons d ds =>
          have h' : (f d env).bind (tgTup.go fs ds) = some env1 := h
          cases e2 : f d env with
          | none => rw [e2] at h'; cases h'
          | some env2 =>
            rw [e2] at h'
            rw [List.length_cons, List.length_cons, ih ds env2 h']
    rw [← h2.length, ← go fs xs env e, hl]
  | _ => cases e
/-- over a sequence -/
def mSeqI (m : En → Res D) (f : D → En → Option En) : En → Res (List (En → Option En)) := mB m fun d _ => (itemsD d).bind fun xs => .ok (xs.map f)
theorem reps_ints {K B} : ∀ ns : List Int, Reps K B (ns.map D.int) (ns.map V.int)
  | [] => by simp [Reps]
  | n :: ns => by
    show Reps K B (.int n :: ns.map D.int) (.int n :: ns.map V.int)
    simp only [Reps]
    exact ⟨_, _, rfl, rfl, reps_ints ns⟩
theorem sim_seqI {K W t m g f sl} (ok : TgOk K g f sl) (h : Sim RP K W t m) : Sim (RI g sl) K W (iSeq K t) (mSeqI m f) := by
  refine Sim.bind (R := RP) (S := RI g sl) (u := fun x σ H1 R => (∃ a, x = V.ref a ∧ (∃ xs, SqL K H1 a xs) ∧ R (Itl K a) H1) ∨ (∃ a, x = V.ref a ∧ (∃ xs, SqT K H1 a xs) ∧ R (Itt K a) H1) ∨ ∃ z, x = V.str z ∧ R (Its z) H1) h fun B0 H0 env σ B H d v B1 H1 I x r => ?_
  have list : ∀ (a : Addr) (xs : List D) (vs : List V), SqL K B1 a vs → Reps K B1 xs vs → Walk K B1 (Itl K a) g sl (xs.map f) := fun a xs vs hs hr => by
    refine ⟨fun i B' H' hi x1 x2 => ?_, fun B' H' x1 x2 => ?_, fun i b B0 H0 env env1 σ B' H' hb e I x1 y H2 hy Q q => ?_⟩
    · rw [List.length_map] at hi
      obtain ⟨w, hw, _⟩ := hr.get (List.getElem?_eq_getElem hi)
      exact ⟨vs, w, x2.l (x1.l hs), hw⟩
    · exact ⟨vs, x2.l (x1.l hs), by rw [List.length_map, hr.length]; exact Nat.le_refl _⟩
    · rw [List.getElem?_map] at hb
      cases e1 : xs[i]? with
      | none => rw [e1] at hb; cases hb
      | some d =>
        rw [e1] at hb
        cases hb
        obtain ⟨w, hw, rw'⟩ := hr.get e1
        obtain ⟨eH, hy⟩ := hy
        subst eH
        have ey := hy vs (I.xs.l (x1.l hs))
        rw [hw] at ey
        cases ey
        exact ok B0 H0 env env1 σ B' _ d _ I (rw'.mono x1) e Q q
  cases d with
  | lst xs =>
    obtain ⟨a, vs, e1, h1, h2⟩ := rep_lst r
    subst e1
    exact fun Q q => .inl ⟨a, rfl, ⟨vs, I.xs.l (SqL.of h1)⟩, q _ B1 H1 x (list a xs vs (SqL.of h1) h2)⟩
  | scr ns =>
    have r' : Rep K B1 (.scr ns) v := r
    simp only [Rep] at r'
    obtain ⟨a, e1, h1⟩ := r'
    subst e1
    exact fun Q q => .inl ⟨a, rfl, ⟨_, I.xs.l h1⟩, q _ B1 H1 x (list a _ _ h1 (reps_ints ns))⟩
  | tup xs =>
    obtain ⟨a, vs, e1, h1, _, h2⟩ := rep_tup r
    subst e1
    refine fun Q q => .inr (.inl ⟨a, rfl, ⟨vs, I.xs.t h1⟩, q _ B1 H1 x ⟨fun i B' H' hi x1 x2 => ?_, fun B' H' x1 x2 => ?_, fun i b B0 H0 env env1 σ B' H' hb e I x1 y H2 hy Q q => ?_⟩⟩)
    · rw [List.length_map] at hi
      obtain ⟨w, hw, _⟩ := h2.get (List.getElem?_eq_getElem hi)
      exact ⟨vs, w, x2.t (x1.t h1), hw⟩
    · exact ⟨vs, x2.t (x1.t h1), by rw [List.length_map, h2.length]; exact Nat.le_refl _⟩
    · rw [List.getElem?_map] at hb
      cases e1 : xs[i]? with
      | none => rw [e1] at hb; cases hb
      | some d =>
        rw [e1] at hb
        cases hb
        obtain ⟨w, hw, rw'⟩ := h2.get e1
        obtain ⟨eH, hy⟩ := hy
        subst eH
        have ey := hy vs (I.xs.t (x1.t h1))
        rw [hw] at ey
        cases ey
        exact ok B0 H0 env env1 σ B' _ d _ I (rw'.mono x1) e Q q
  | str z =>
    cases rep_str r
    have hl : (z.cps.toList.map fun c => D.str ⟨#[c]⟩).length = z.cps.size := by rw [List.length_map, Array.length_toList]
    refine fun Q q => .inr (.inr ⟨z, rfl, q _ B1 H1 x ⟨fun i B' H' hi x1 x2 => ?_, fun B' H' x1 x2 => ?_, fun i b B0 H0 env env1 σ B' H' hb e I x1 y H2 hy Q q => ?_⟩⟩)
    · rw [List.length_map, hl] at hi
      exact hi
    · show z.cps.size ≤ _
      rw [List.length_map, hl]
      exact Nat.le_refl _
    · obtain ⟨eH, c, hc, ev⟩ := hy
      subst eH ev
      rw [List.getElem?_map, List.getElem?_map, Array.getElem?_toList, hc] at hb
      cases hb
      exact ok B0 H0 env env1 σ B' _ _ _ I (show Rep K B' (.str ⟨#[c]⟩) (.str ⟨#[c]⟩) from rfl) e Q q
  | _ => trivial
theorem si_seq {X : Cx} {W : WX} {tg iter : Expr} {m : En → Res D} {f : D → En → Option En} {sl : List Nat} (h : SE X W RP iter m) (k : STg X tg f sl) : SIt X W tg iter (mSeqI m f) := by
  obtain ⟨t, p, s⟩ := h.ex
  obtain ⟨g, pg, ok⟩ := k.ex
  exact ⟨g, sl, _, pg, pi_seq p, sim_seqI ok s⟩
/-! ### ranges -/
def rng (lo hi : Int) : List D := (List.range (hi - lo).toNat).map fun i => .int (lo + (i : Nat))
def rngB (i j : Int) : Bool := decide (-(2 ^ 62) ≤ i ∧ i < 2 ^ 62 ∧ -(2 ^ 62) ≤ j ∧ j < 2 ^ 62)
def rngD : D → D → Res (List D)
  | .int i, .int j => if rngB i j then .ok (rng i j) else .stuck
  | _, _ => .stuck
def mRng1 (m : En → Res D) (f : D → En → Option En) : En → Res (List (En → Option En)) := mB m fun d _ => (rngD (.int 0) d).bind fun xs => .ok (xs.map f)
def mRng2 (ma mb : En → Res D) (f : D → En → Option En) : En → Res (List (En → Option En)) := mB ma fun a => mB mb fun b _ => (rngD a b).bind fun xs => .ok (xs.map f)
theorem walk_rng {K : PySem.W.Frag} {g : TG} {f : D → En → Option En} {sl : List Nat} (ok : TgOk K g f sl) (Bs : Hp) (lo : Int) (n : Nat) : Walk K Bs (Itr lo n) g sl (((List.range n).map fun i => D.int (lo + (i : Nat))).map f) := by
  have hl : (((List.range n).map fun i => D.int (lo + (i : Nat))).map f).length = n := by rw [List.length_map, List.length_map, List.length_range]
  refine ⟨fun i B' H' hi x1 x2 => by rw [hl] at hi; exact hi, fun B' H' x1 x2 => by rw [hl]; exact Nat.le_refl _, fun i b B0 H0 env env1 σ B' H' hb e I x1 y H2 hy Q q => ?_⟩
  obtain ⟨eH, ev⟩ := hy
  subst eH ev
  have hi : i < n := by
    have := (List.getElem?_eq_some_iff.mp hb).1
    rwa [hl] at this
  rw [List.getElem?_map, List.getElem?_map, List.getElem?_range hi] at hb
  cases hb
  exact ok B0 H0 env env1 σ B' _ _ _ I (show Rep K B' (.int (lo + (i : Nat))) (.int (lo + (i : Nat))) from rfl) e Q q
theorem si_rng1 {X : Cx} {W : WX} {tg a : Expr} {m : En → Res D} {f : D → En → Option En} {sl : List Nat} {p pos : Pos} (hm : X.mg "range" = none) (h : SE X W RT a m) (k : STg X tg f sl) (hg : Gl X "range" := by rfl) (hs : starEach [a] X.env = [(false, eval a X.env)] := by rfl) :
    SIt X W tg (.Call (.Name "range" p) [a] [] pos) (mRng1 m f) := by
  obtain ⟨t, pa, s⟩ := h.ex
  obtain ⟨g, pg, ok⟩ := k.ex
  refine ⟨g, sl, _, pg, pi_range1 hg hm (pa_cons pa pa_nil hs) hs, ?_⟩
  refine Sim.bind (R := RT) (S := RI g sl) (u := fun v σ H1 R => ∃ j : Int, [v] = [V.int j] ∧ -(2 ^ 62) ≤ j ∧ j < 2 ^ 62 ∧ R (Itr 0 j.toNat) H1) s fun B0 H0 env σ B H d v B1 H1 I x r => ?_
  cases d with
  | int j =>
    cases rep_int (r.rep I.xs)
    show Post _ _ _ _ _ _ (Res.bind (if rngB 0 j = true then Res.ok (rng 0 j) else .stuck) _) _
    by_cases c : rngB 0 j = true
    · rw [if_pos c]
      have c' := of_decide_eq_true (show decide _ = true from c)
      refine fun Q q => ⟨j, rfl, c'.2.2.1, c'.2.2.2, q _ B1 H1 x ?_⟩
      have w := walk_rng ok B1 0 j.toNat
      show Walk X.K B1 (Itr 0 j.toNat) g sl ((rng 0 j).map f)
      unfold rng
      rw [Int.sub_zero]
      exact w
    · rw [if_neg c]
      trivial
  | _ => trivial
theorem si_rng2 {X : Cx} {W : WX} {tg a b : Expr} {ma mb : En → Res D} {f : D → En → Option En} {sl : List Nat} {p pos : Pos} (hm : X.mg "range" = none) (ha : SE X W RT a ma) (hb : SE X W RT b mb) (k : STg X tg f sl) (hg : Gl X "range" := by rfl)
    (hs : starEach [a, b] X.env = [(false, eval a X.env), (false, eval b X.env)] := by rfl) (hs2 : starEach [b] X.env = [(false, eval b X.env)] := by rfl) :
    SIt X W tg (.Call (.Name "range" p) [a, b] [] pos) (mRng2 ma mb f) := by
  obtain ⟨ta, pa, sa⟩ := ha.ex
  obtain ⟨tb, pb, sb⟩ := hb.ex
  obtain ⟨g, pg, ok⟩ := k.ex
  refine ⟨g, sl, _, pg, pi_range2 hg hm (pa_cons pa (pa_cons pb pa_nil hs2) (by rw [hs, hs2])) hs hs2, ?_⟩
  intro B0 H0 env σ B H I
  unfold mRng2 mB
  cases e1 : ma env with
  | stuck => trivial
  | exc c fn fv => exact fun Q q => sa.exc I e1 q
  | ok d =>
    show Post (RI g sl) X.K W σ B H ((mb env).bind fun b => (rngD d b).bind fun xs => .ok (xs.map f)) _
    cases e2 : mb env with
    | stuck => trivial
    | exc c fn fv => exact fun Q q => sa.ok I e1 fun v B1 H1 x I1 r1 => sb.exc I1 e2 fun od B' H' y z => q od B' H' (x.trans y) z
    | ok e =>
      show Post (RI g sl) X.K W σ B H ((rngD d e).bind fun xs => .ok (xs.map f)) _
      cases d with
      | int i =>
        cases e with
        | int j =>
          show Post _ _ _ _ _ _ (Res.bind (if rngB i j = true then Res.ok (rng i j) else .stuck) _) _
          by_cases c : rngB i j = true
          · rw [if_pos c]
            have c' := of_decide_eq_true (show decide _ = true from c)
            intro Q q
            refine sa.ok I e1 fun v B1 H1 x I1 r1 => ?_
            refine sb.ok I1 e2 fun w B2 H2 y I2 r2 => ?_
            cases rep_int (r1.rep I1.xs)
            cases rep_int (r2.rep I2.xs)
            exact ⟨i, j, rfl, c', q _ B2 H2 (x.trans y) (walk_rng ok B2 i (j - i).toNat)⟩
          · rw [if_neg c]
            trivial
        | _ => trivial
      | _ => trivial
end Sm

set_option autoImplicit true
set_option Elab.async false
set_option linter.all false
set_option maxRecDepth 100000
set_option maxHeartbeats 4000000
namespace Sm
open PySem PySem.Spec PyProof.Rows L2

/-! ### one's own lists, changed by their methods -/
/-- what a method leaves of the list -/
def MutR (r : V → List V → Hp → VK → Prop) (g : List D → List D → Option (List D)) : Prop :=
  ∀ (K : PySem.W.Frag) (B H : Hp) (l : Addr) (xs ds ys : List D) (vs us : List V), H l = some (.lst vs) → Reps K B xs vs → Reps K B ds us → g xs ds = some ys → ∃ ws, Reps K B ys ws ∧ ∀ Q : VK, Q .non (upd H l (.lst ws)) → r (.ref l) us H Q
def mMut (i : Nat) (ma : En → Res (List D)) (g : List D → List D → Option (List D)) : En → SR := fun env => match env[i]? with
  | some (.ow (.lst xs)) => mS ma (fun ds env => match g xs ds with
    | some ys => .nx (env.set i (.ow (.lst ys)))
    | none => .stuck) env
  | _ => .stuck
/-- at one state -/
theorem simS_at {α β : Type} {R : RG α β} {K W} {t : L2.St → Hp → (β → Hp → Prop) → Prop} {m : En → Res α} {f : α → En → SR} {B0 H0 B H : Hp} {env : En} {σ : L2.St} {D : Ends} {u : β → Hp → Prop} (h : Sim R K W t m) (I : SI K B0 H0 env σ B H)
    (k : ∀ a v B1 H1, m env = .ok a → Xt B H B1 H1 → SI K B0 H0 env σ B1 H1 → R K H B1 H1 a v → PostS K W B0 H0 (f a env) D (u v H1)) : PostS K W B0 H0 (mS m f env) D (t σ H u) := by
  refine postS_of fun w => ?_
  unfold mS at w
  cases e : m env with
  | stuck => rw [e] at w; exact w.elim
  | exc c fn fv =>
    rw [e] at w
    exact h.exc I e fun od B' H' x r => w σ B' H' od (I.xt x) r
  | ok a =>
    rw [e] at w
    exact h.ok I e fun v B1 H1 x I1 r => (k a v B1 H1 e x I1 r).to w
section
variable {X : Cx} {W : WX} {x name : Str} {np apos cpos pos pos' : Pos} {e : Expr} {es : List Expr} {ma : En → Res (List D)} {g : List D → List D → Option (List D)} {id : String} {r : V → List V → Hp → VK → Prop}
theorem ss_mut (i : Nat) (slot : Slot "list" name id) (hty : typeOf (.builtin id) = pure (.type "method_descriptor")) (hm : MtR X id r) (hr : MutR r g) (ha : SA X W (e :: es) ma) (hN : X.N[i]? = some x := by rfl)
    (hv : Vis X.env.scope x := by first | exact Or.inl rfl | exact Or.inr (Or.inl rfl) | exact Or.inr (Or.inr rfl)) (hd : (x == ("__debug__" : Str)) = false := by decide) (hcd : (x == ("__classdict__" : Str)) = false := by decide)
    (hbase : attributeBase (.Name x np) name X.env (eval (.Name x np) X.env) = eval (.Name x np) X.env := by rfl)
    (hfew : ((backTo cpos (starEach (e :: es) X.env)).all (fun x => !x.1) && (backToKw cpos (keywordEach [] X.env)).all (fun x => x.1.isSome)
      && decide ((e :: es).length + ([] : List Keyword).length + (if ([] : List Keyword).isEmpty then 0 else 1) < 30)) = true := by rfl)
    (hline : (apos.endLine == cpos.line) = true := by rfl) (hs : starEach (e :: es) X.env = (false, eval e X.env) :: starEach es X.env := by rfl) (hplain : (backTo cpos (starEach es X.env)).any (·.1) = false := by rfl)
    (hsw : swapsWith (.Call (.Attribute (.Name x np) name apos) (e :: es) [] cpos) none pos.line X.env = pure false := by rfl) :
    SS X W (.Expr (.Call (.Attribute (.Name x np) name apos) (e :: es) [] cpos) pos) (mMut i ma g) := by
  obtain ⟨t, p, s⟩ := ha.ex
  refine ⟨_, ps_expr (pe_bm PySem.F.plainAttrs_list slot hty hm (pe_var hN hv hd hcd) p hbase hfew hline hs hplain) hsw, ?_⟩
  intro B0 H0 env σ B H I D
  unfold mMut
  cases h : env[i]? with
  | none => trivial
  | some c =>
    cases c with
    | un => trivial
    | sh d => trivial
    | ow o =>
      cases o with
      | dct _ _ => trivial
      | dtt _ _ => trivial
      | ins _ _ _ => trivial
      | lst xs =>
      obtain ⟨p, ho, e1, h0, hb, hh, rr⟩ := I.ow i _ h
      obtain ⟨vs, eo, rrl⟩ := repO_lst rr
      subst eo
      have z := simS_at (f := fun ds env => match g xs ds with
        | some ys => .nx (env.set i (.ow (.lst ys)))
        | none => .stuck) (u := fun us H2 => r (.ref p) us H2 fun _ H3 => D.nx σ H3) (D := D) s I fun a v B1 H1 _ x1 I1 r1 => by
          cases e2 : g xs a with
          | none => trivial
          | some ys =>
            obtain ⟨p2, ho2, e3, _, _, hh2, rr2⟩ := I1.ow i _ h
            obtain ⟨vs2, eo2, rrl2⟩ := repO_lst rr2
            subst eo2
            rw [e1] at e3
            cases e3
            obtain ⟨ws, rw', k⟩ := hr X.K B1 H1 p xs a ys vs2 v hh2 rrl2 r1 e2
            exact fun q => k _ (q σ B1 _ (I1.mut (o' := .lst _) (ho := .lst _) h e1 (mk_repO rw')))
      exact z.wrap fun z => ⟨.ref p, e1, .inl ⟨rfl, vs, SqL.of hh⟩, z⟩
/-- x.reverse(), x.clear() -/
def mMut0 (i : Nat) (g : List D → Option (List D)) : En → SR := fun env => match env[i]? with
  | some (.ow (.lst xs)) => (match g xs with
    | some ys => .nx (env.set i (.ow (.lst ys)))
    | none => .stuck)
  | _ => .stuck
theorem ss_mut0 {g : List D → Option (List D)} (i : Nat) (slot : Slot "list" name id) (hty : typeOf (.builtin id) = pure (.type "method_descriptor")) (hm : MtR X id r)
    (hr : ∀ (K : PySem.W.Frag) (B H : Hp) (l : Addr) (xs ys : List D) (vs : List V), H l = some (.lst vs) → Reps K B xs vs → g xs = some ys → ∃ ws, Reps K B ys ws ∧ ∀ Q : VK, Q .non (upd H l (.lst ws)) → r (.ref l) [] H Q) (hN : X.N[i]? = some x := by rfl)
    (hv : Vis X.env.scope x := by first | exact Or.inl rfl | exact Or.inr (Or.inl rfl) | exact Or.inr (Or.inr rfl)) (hd : (x == ("__debug__" : Str)) = false := by decide) (hcd : (x == ("__classdict__" : Str)) = false := by decide)
    (hbase : attributeBase (.Name x np) name X.env (eval (.Name x np) X.env) = eval (.Name x np) X.env := by rfl) (hline : (apos.endLine == cpos.line) = true := by rfl)
    (hsw : swapsWith (.Call (.Attribute (.Name x np) name apos) [] [] cpos) none pos.line X.env = pure false := by rfl) :
    SS X W (.Expr (.Call (.Attribute (.Name x np) name apos) [] [] cpos) pos) (mMut0 i g) := by
  refine ⟨_, ps_expr (pe_bm0 PySem.F.plainAttrs_list slot hty hm (pe_var hN hv hd hcd) hbase hline) hsw, ?_⟩
  intro B0 H0 env σ B H I D
  unfold mMut0
  cases h : env[i]? with
  | none => trivial
  | some c =>
    cases c with
    | un => trivial
    | sh d => trivial
    | ow o =>
      cases o with
      | dct _ _ => trivial
      | dtt _ _ => trivial
      | ins _ _ _ => trivial
      | lst xs =>
      show PostS X.K W B0 H0 (match g xs with
        | some ys => .nx (env.set i (.ow (.lst ys)))
        | none => .stuck) D _
      cases e2 : g xs with
      | none => trivial
      | some ys =>
        obtain ⟨p, ho, e1, h0, hb, hh, rr⟩ := I.ow i _ h
        obtain ⟨vs, eo, rrl⟩ := repO_lst rr
        subst eo
        obtain ⟨ws, rw', k⟩ := hr X.K B H p xs ys vs hh rrl e2
        exact fun q => ⟨.ref p, e1, .inl ⟨rfl, vs, SqL.of hh⟩, k _ (q σ B _ (I.mut (o' := .lst _) (ho := .lst _) h e1 (mk_repO rw')))⟩
end
/-! the methods -/
def appG (xs ds : List D) : Option (List D) := match ds with
  | [d] => if szB (xs.length + 1) then some (xs ++ [d]) else none
  | _ => none
theorem reps1 {K B d us} (h : Reps K B [d] us) : ∃ v, us = [v] ∧ Rep K B d v := by
  simp only [Reps] at h
  obtain ⟨v, r, e, h1, h2⟩ := h
  subst h2
  exact ⟨v, e, h1⟩
theorem reps2 {K B d e us} (h : Reps K B [d, e] us) : ∃ v w, us = [v, w] ∧ Rep K B d v ∧ Rep K B e w := by
  simp only [Reps] at h
  obtain ⟨v, r, e, h1, w, r2, e2, h2, h3⟩ := h
  subst h3
  subst e2
  exact ⟨v, w, e, h1, h2⟩
theorem reps_one {K B d v} (h : Rep K B d v) : Reps K B [d] [v] := by
  simp only [Reps]
  exact ⟨v, [], rfl, h, rfl⟩
theorem mut_app : MutR rAppend appG := by
  intro K B H l xs ds ys vs us h r r2 e
  match ds, e, r2 with
  | [d], e, r2 =>
    obtain ⟨v, eu, rv⟩ := reps1 r2
    subst eu
    have e' : (if szB (xs.length + 1) = true then some (xs ++ [d]) else none) = some ys := e
    split at e'
    · rename_i c
      cases e'
      have hz := szB_ok c
      refine ⟨vs ++ [v], r.append (reps_one rv), fun Q q => ⟨l, vs, v, rfl, rfl, h, by rw [← r.length]; omega, q⟩⟩
    · cases e'
def insG (xs ds : List D) : Option (List D) := match ds with
  | [.int i, d] => if szB (xs.length + 1) && decide (0 ≤ i ∧ i < 2 ^ 63) then some (xs.take i.toNat ++ [d] ++ xs.drop i.toNat) else none
  | _ => none
theorem mut_ins : MutR (fun x vs H Q => ∃ (l : Addr) (xs : List V) (i : Int) (y : V), x = .ref l ∧ vs = [.int i, y] ∧ H l = some (.lst xs) ∧ xs.length < sizeLine ∧ 0 ≤ i ∧ i < 2 ^ 63 ∧ Q .non (upd H l (.lst (xs.take i.toNat ++ [y] ++ xs.drop i.toNat)))) insG := by
  intro K B H l xs ds ys vs us h r r2 e
  match ds, e, r2 with
  | [.int i, d], e, r2 =>
    obtain ⟨v, w, eu, rv, rw'⟩ := reps2 r2
    cases rep_int rv
    subst eu
    have e' : (if (szB (xs.length + 1) && decide (0 ≤ i ∧ i < 2 ^ 63)) = true then some (xs.take i.toNat ++ [d] ++ xs.drop i.toNat) else none) = some ys := e
    split at e'
    · rename_i c
      cases e'
      have c2 := Bool.and_eq_true_iff.mp c
      have hz := szB_ok c2.1
      have hi := of_decide_eq_true c2.2
      exact ⟨_, ((r.take _).append (reps_one rw')).append (r.drop _), fun Q q => ⟨l, vs, i, w, rfl, rfl, h, by rw [← r.length]; omega, hi.1, hi.2, q⟩⟩
    · cases e'
def revG (xs : List D) : Option (List D) := some xs.reverse
theorem Reps.reverse {K B} : ∀ {ds : List D} {vs : List V}, Reps K B ds vs → Reps K B ds.reverse vs.reverse
  | [], vs, h => by simp only [Reps] at h; subst h; simp [Reps]
  | d :: ds, vs, h => by
    simp only [Reps] at h
    obtain ⟨v, r, e, h1, h2⟩ := h
    subst e
    rw [List.reverse_cons, List.reverse_cons]
    exact (Reps.reverse h2).append (reps_one h1)

/-! ### pop: an expression that changes one's own list -/
def SimX (K : PySem.W.Frag) (W : WX) (t : TE) (m : En → Res (D × En)) : Prop := ∀ B0 H0 env σ B H, SI K B0 H0 env σ B H → match m env with
  | .ok (d, env') => ∀ Q : VK, (∀ v B' H', SI K B0 H0 env' σ B' H' → Rep K B' d v → Q v H') → t σ H Q
  | .exc c fn fv => ∀ Q : VK, (∀ od B' H', Xt B H B' H' → XR K B' fn fv od → W (.ref (He.ga K c)) od σ H') → t σ H Q
  | .stuck => True
structure SX (X : Cx) (W : WX) (e : Expr) (m : En → Res (D × En)) : Prop where
  ex : ∃ t, PE X e t ∧ SimX X.K W t m
def PopR (r : V → List V → Hp → VK → Prop) (g : List D → List D → Option (D × List D)) : Prop :=
  ∀ (K : PySem.W.Frag) (B H : Hp) (l : Addr) (xs ds ys : List D) (d : D) (vs us : List V), H l = some (.lst vs) → Reps K B xs vs → Reps K B ds us → g xs ds = some (d, ys) → ∃ v ws, Rep K B d v ∧ Reps K B ys ws ∧ ∀ Q : VK, Q v (upd H l (.lst ws)) → r (.ref l) us H Q
def mPop (i : Nat) (ma : En → Res (List D)) (g : List D → List D → Option (D × List D)) : En → Res (D × En) := fun env => match env[i]? with
  | some (.ow (.lst xs)) => (ma env).bind fun ds => match g xs ds with
    | some (d, ys) => .ok (d, env.set i (.ow (.lst ys)))
    | none => .stuck
  | _ => .stuck
section
variable {X : Cx} {W : WX} {x name : Str} {np apos cpos pos pos' : Pos} {e : Expr} {es : List Expr} {ma : En → Res (List D)} {g : List D → List D → Option (D × List D)} {id : String} {r : V → List V → Hp → VK → Prop}
theorem sx_pop (i : Nat) (slot : Slot "list" name id) (hty : typeOf (.builtin id) = pure (.type "method_descriptor")) (hm : MtR X id r) (hr : PopR r g) (ha : SA X W (e :: es) ma) (hN : X.N[i]? = some x := by rfl)
    (hv : Vis X.env.scope x := by first | exact Or.inl rfl | exact Or.inr (Or.inl rfl) | exact Or.inr (Or.inr rfl)) (hd : (x == ("__debug__" : Str)) = false := by decide) (hcd : (x == ("__classdict__" : Str)) = false := by decide)
    (hbase : attributeBase (.Name x np) name X.env (eval (.Name x np) X.env) = eval (.Name x np) X.env := by rfl)
    (hfew : ((backTo cpos (starEach (e :: es) X.env)).all (fun x => !x.1) && (backToKw cpos (keywordEach [] X.env)).all (fun x => x.1.isSome)
      && decide ((e :: es).length + ([] : List Keyword).length + (if ([] : List Keyword).isEmpty then 0 else 1) < 30)) = true := by rfl)
    (hline : (apos.endLine == cpos.line) = true := by rfl) (hs : starEach (e :: es) X.env = (false, eval e X.env) :: starEach es X.env := by rfl) (hplain : (backTo cpos (starEach es X.env)).any (·.1) = false := by rfl) :
    SX X W (.Call (.Attribute (.Name x np) name apos) (e :: es) [] cpos) (mPop i ma g) := by
  obtain ⟨t, p, s⟩ := ha.ex
  refine ⟨_, pe_bm PySem.F.plainAttrs_list slot hty hm (pe_var hN hv hd hcd) p hbase hfew hline hs hplain, ?_⟩
  intro B0 H0 env σ B H I
  unfold mPop
  cases h : env[i]? with
  | none => trivial
  | some c =>
    cases c with
    | un => trivial
    | sh d => trivial
    | ow o =>
      cases o with
      | dct _ _ => trivial
      | dtt _ _ => trivial
      | ins _ _ _ => trivial
      | lst xs =>
      obtain ⟨p, ho, e1, h0, hb, hh, rr⟩ := I.ow i _ h
      obtain ⟨vs, eo, rrl⟩ := repO_lst rr
      subst eo
      cases e2 : ma env with
      | stuck => simp only [e2, Res.bind]
      | exc c fn fv =>
        simp only [e2, Res.bind]
        exact fun Q q => ⟨.ref p, e1, .inl ⟨rfl, vs, SqL.of hh⟩, s.exc I e2 q⟩
      | ok ds =>
        simp only [e2, Res.bind]
        cases e3 : g xs ds with
        | none => trivial
        | some z =>
          obtain ⟨d, ys⟩ := z
          simp only
          refine fun Q q => ⟨.ref p, e1, .inl ⟨rfl, vs, SqL.of hh⟩, s.ok I e2 fun us B1 H1 x1 I1 r1 => ?_⟩
          obtain ⟨p2, ho2, e4, _, _, hh2, rr2⟩ := I1.ow i _ h
          obtain ⟨vs2, eo2, rrl2⟩ := repO_lst rr2
          subst eo2
          rw [e1] at e4
          cases e4
          obtain ⟨v, ws, rv, rw', k⟩ := hr X.K B1 H1 p xs ds ys d vs2 us hh2 rrl2 r1 e3
          exact k Q (q v B1 _ (I1.mut (o' := .lst _) (ho := .lst _) h e1 (mk_repO rw')) rv)
/-- without arguments -/
def on0 {α : Type} (g : List D → Option α) (xs ds : List D) : Option α := match ds with
  | [] => g xs
  | _ => none
theorem sx_pop0 {g : List D → Option (D × List D)} (i : Nat) (slot : Slot "list" name id) (hty : typeOf (.builtin id) = pure (.type "method_descriptor")) (hm : MtR X id r) (hr : PopR r (on0 g)) (hN : X.N[i]? = some x := by rfl)
    (hv : Vis X.env.scope x := by first | exact Or.inl rfl | exact Or.inr (Or.inl rfl) | exact Or.inr (Or.inr rfl)) (hd : (x == ("__debug__" : Str)) = false := by decide) (hcd : (x == ("__classdict__" : Str)) = false := by decide)
    (hbase : attributeBase (.Name x np) name X.env (eval (.Name x np) X.env) = eval (.Name x np) X.env := by rfl) (hline : (apos.endLine == cpos.line) = true := by rfl) :
    SX X W (.Call (.Attribute (.Name x np) name apos) [] [] cpos) (mPop i mNil fun xs _ => g xs) := by
  refine ⟨_, pe_bm0 PySem.F.plainAttrs_list slot hty hm (pe_var hN hv hd hcd) hbase hline, ?_⟩
  intro B0 H0 env σ B H I
  unfold mPop
  cases h : env[i]? with
  | none => trivial
  | some c =>
    cases c with
    | un => trivial
    | sh d => trivial
    | ow o =>
      cases o with
      | dct _ _ => trivial
      | dtt _ _ => trivial
      | ins _ _ _ => trivial
      | lst xs =>
      obtain ⟨p, ho, e1, h0, hb, hh, rr⟩ := I.ow i _ h
      obtain ⟨vs, eo, rrl⟩ := repO_lst rr
      subst eo
      simp only [mNil, Res.bind]
      cases e3 : g xs with
      | none => trivial
      | some z =>
        obtain ⟨d, ys⟩ := z
        simp only
        obtain ⟨v, ws, rv, rw', k⟩ := hr X.K B H p xs [] ys d vs [] hh rrl (by simp [Reps]) e3
        exact fun Q q => ⟨.ref p, e1, .inl ⟨rfl, vs, SqL.of hh⟩, k Q (q v B _ (I.mut (o' := .lst _) (ho := .lst _) h e1 (mk_repO rw')) rv)⟩
/-- z = x.pop(..) -/
def mSetX (i : Nat) (m : En → Res (D × En)) : En → SR := fun env => match m env with
  | .ok (d, env') => .nx (env'.set i (.sh d))
  | .exc c fn fv => .exc env c fn fv
  | .stuck => .stuck
theorem ss_setX {m : En → Res (D × En)} (i : Nat) {y : Str} (hNd : X.N.Nodup) (he : SX X W e m) (hi : X.N[i]? = some y := by rfl) (hx : Loc X.env.scope y := by first | exact Or.inl rfl | exact Or.inr rfl) (hs : swapsWith e (some (.Name y pos')) pos.line X.env = pure false := by rfl) (hf : X.fn y = true ∨ X.env.scope.names.lookup y = some .local := by first | exact .inl rfl | exact .inr rfl | assumption) :
    SS X W (.Assign [.Name y pos'] e pos) (mSetX i m) := by
  obtain ⟨t, p, s⟩ := he.ex
  refine ⟨_, ps_set hNd hi hx p hs hf, ?_⟩
  intro B0 H0 env σ B H I D
  have z := s B0 H0 env σ B H I
  unfold mSetX
  cases e1 : m env with
  | stuck => trivial
  | exc c fn fv => rw [e1] at z; exact fun q => z _ fun od B' H' x r => q σ B' H' od (I.xt x) r
  | ok r =>
    obtain ⟨d, env'⟩ := r
    rw [e1] at z
    exact fun q => z _ fun v B' H' I' r => q _ B' H' (I'.setSh i r)
def mExpX (m : En → Res (D × En)) : En → SR := fun env => match m env with
  | .ok (_, env') => .nx env'
  | .exc c fn fv => .exc env c fn fv
  | .stuck => .stuck
theorem ss_exprX {m : En → Res (D × En)} (he : SX X W e m) (hs : swapsWith e none pos.line X.env = pure false := by rfl) : SS X W (.Expr e pos) (mExpX m) := by
  obtain ⟨t, p, s⟩ := he.ex
  refine ⟨_, ps_expr p hs, ?_⟩
  intro B0 H0 env σ B H I D
  have z := s B0 H0 env σ B H I
  unfold mExpX
  cases e1 : m env with
  | stuck => trivial
  | exc c fn fv => rw [e1] at z; exact fun q => z _ fun od B' H' x r => q σ B' H' od (I.xt x) r
  | ok r =>
    obtain ⟨d, env'⟩ := r
    rw [e1] at z
    exact fun q => z _ fun v B' H' I' r => q _ B' H' I'
/-- y.append(x.pop(..)) -/
def mAppX (i : Nat) (m : En → Res (D × En)) : En → SR := fun env => match env[i]? with
  | some (.ow (.lst _)) => (match m env with
    | .ok (d, env') => (match env'[i]? with
      | some (.ow (.lst xs)) => (match appG xs [d] with
        | some ys => .nx (env'.set i (.ow (.lst ys)))
        | none => .stuck)
      | _ => .stuck)
    | .exc c fn fv => .exc env c fn fv
    | .stuck => .stuck)
  | _ => .stuck
theorem ss_appX {m : En → Res (D × En)} (i : Nat) (he : SX X W e m) (hN : X.N[i]? = some x := by rfl)
    (hv : Vis X.env.scope x := by first | exact Or.inl rfl | exact Or.inr (Or.inl rfl) | exact Or.inr (Or.inr rfl)) (hd : (x == ("__debug__" : Str)) = false := by decide) (hcd : (x == ("__classdict__" : Str)) = false := by decide)
    (hbase : attributeBase (.Name x np) "append" X.env (eval (.Name x np) X.env) = eval (.Name x np) X.env := by rfl)
    (hfew : ((backTo cpos (starEach [e] X.env)).all (fun x => !x.1) && (backToKw cpos (keywordEach [] X.env)).all (fun x => x.1.isSome)
      && decide (([e] : List Expr).length + ([] : List Keyword).length + (if ([] : List Keyword).isEmpty then 0 else 1) < 30)) = true := by rfl)
    (hline : (apos.endLine == cpos.line) = true := by rfl) (hs : starEach [e] X.env = (false, eval e X.env) :: starEach [] X.env := by rfl) (hplain : (backTo cpos (starEach [] X.env)).any (·.1) = false := by rfl)
    (hsw : swapsWith (.Call (.Attribute (.Name x np) "append" apos) [e] [] cpos) none pos.line X.env = pure false := by rfl) :
    SS X W (.Expr (.Call (.Attribute (.Name x np) "append" apos) [e] [] cpos) pos) (mAppX i m) := by
  obtain ⟨t, p, s⟩ := he.ex
  refine ⟨_, ps_expr (pe_bm PySem.F.plainAttrs_list PySem.F.slot_list_append PySem.F.type_list_append mt_append (pe_var hN hv hd hcd) (pa_cons p pa_nil hs) hbase hfew hline hs hplain) hsw, ?_⟩
  intro B0 H0 env σ B H I D
  have z := s B0 H0 env σ B H I
  unfold mAppX
  cases h : env[i]? with
  | none => trivial
  | some c =>
    cases c with
    | un => trivial
    | sh d => trivial
    | ow o =>
      cases o with
      | dct _ _ => trivial
      | dtt _ _ => trivial
      | ins _ _ _ => trivial
      | lst xs0 =>
      obtain ⟨p, ho, e1, h0, hb, hh, rr⟩ := I.ow i _ h
      obtain ⟨vs, eo, rrl⟩ := repO_lst rr
      subst eo
      simp only
      cases e2 : m env with
      | stuck => trivial
      | exc c fn fv => rw [e2] at z; exact fun q => ⟨.ref p, e1, .inl ⟨rfl, vs, SqL.of hh⟩, z _ fun od B' H' x r => q σ B' H' od (I.xt x) r⟩
      | ok rr2 =>
        obtain ⟨d, env'⟩ := rr2
        rw [e2] at z
        simp only
        cases h2 : env'[i]? with
        | none => trivial
        | some c =>
          cases c with
          | un => trivial
          | sh d => trivial
          | ow o =>
            cases o with
            | dct _ _ => trivial
            | dtt _ _ => trivial
            | ins _ _ _ => trivial
            | lst xs =>
            simp only
            cases e4 : appG xs [d] with
            | none => trivial
            | some ys =>
              simp only
              refine fun q => ⟨.ref p, e1, .inl ⟨rfl, vs, SqL.of hh⟩, z _ fun v B' H' I' r => ?_⟩
              obtain ⟨p2, ho2, e5, _, _, hh2, rr2⟩ := I'.ow i _ h2
              obtain ⟨vs2, eo2, rrl2⟩ := repO_lst rr2
              subst eo2
              rw [e1] at e5
              cases e5
              obtain ⟨ws, rw', k⟩ := mut_app X.K B' H' p xs [d] ys vs2 [v] hh2 rrl2 (reps_one r) e4
              exact k (fun _ H2 => D.nx σ H2) (q σ B' _ (I'.mut (o' := .lst _) (ho := .lst _) h2 e1 (mk_repO rw')))
/-- x[i] = e -/
def mSetIt (i : Nat) (mv mk : En → Res D) : En → SR := mS mv fun d env => match env[i]? with
  | some (.ow (.lst xs)) => mS mk (fun k env => match k with
    | .int k => (match ixN xs.length k with
      | some j => .nx (env.set i (.ow (.lst (xs.set j d))))
      | none => .stuck)
    | _ => .stuck) env
  | _ => .stuck
theorem reps_set {K B d v} (r : Rep K B d v) : ∀ {ds : List D} {vs : List V} (j : Nat), Reps K B ds vs → Reps K B (ds.set j d) (vs.set j v)
  | [], vs, j, h => by simp only [Reps] at h; subst h; simp [Reps]
  | e :: ds, vs, 0, h => by
    simp only [Reps] at h
    obtain ⟨w, q, e1, h1, h2⟩ := h
    subst e1
    show Reps K B (d :: ds) (v :: q)
    simp only [Reps]
    exact ⟨v, q, rfl, r, h2⟩
  | e :: ds, vs, j + 1, h => by
    simp only [Reps] at h
    obtain ⟨w, q, e1, h1, h2⟩ := h
    subst e1
    show Reps K B (e :: ds.set j d) (w :: q.set j v)
    simp only [Reps]
    exact ⟨w, _, rfl, h1, reps_set r j h2⟩
theorem ss_setIt {k : Expr} {mv mk : En → Res D} {tpos : Pos} (i : Nat) (he : SE X W RP e mv) (hk : SE X W RT k mk) (hN : X.N[i]? = some x := by rfl)
    (hv : Vis X.env.scope x := by first | exact Or.inl rfl | exact Or.inr (Or.inl rfl) | exact Or.inr (Or.inr rfl)) (hd : (x == ("__debug__" : Str)) = false := by decide) (hcd : (x == ("__classdict__" : Str)) = false := by decide)
    (ha : ∀ v, assign (.Subscript (.Name x np) k tpos) X.env v = (do
      let ov ← holding [v] (eval (.Name x np) X.env)
      let iv ← holding [v, ov] (eval k X.env)
      standAt tpos
      holding [v, ov, iv] (setItem ov iv v)
      release [v, ov, iv] []) := by intro _; rfl)
    (hs : swapsWithSole [.Subscript (.Name x np) k tpos] e pos.line X.env = pure false := by rfl) (hw : swappedStores [.Subscript (.Name x np) k tpos] e X.env = pure none := by rfl) (h1 : (assignEach [.Subscript (.Name x np) k tpos] X.env).map (·.2) = [assign (.Subscript (.Name x np) k tpos) X.env] := by rfl) :
    SS X W (.Assign [.Subscript (.Name x np) k tpos] e pos) (mSetIt i mv mk) := by
  obtain ⟨t, p, s⟩ := he.ex
  obtain ⟨tk, pk, sk⟩ := hk.ex
  refine ⟨_, ps_asg p (pg_sub (pe_var hN hv hd hcd) pk set_list ha) hs hw h1, ?_⟩
  refine SimS.of (R := RP) (u := fun v D σ H => tVar i σ H fun o H1 => tk σ H1 fun z H2 => rSetL o z v H2 fun H3 => D.nx σ H3) s fun B0 H0 env σ B H d v B1 H1 _ x1 I r D => ?_
  cases h : env[i]? with
  | none => trivial
  | some c =>
    cases c with
    | un => trivial
    | sh d => trivial
    | ow o =>
      cases o with
      | dct _ _ => trivial
      | dtt _ _ => trivial
      | ins _ _ _ => trivial
      | lst xs =>
      obtain ⟨p2, ho, e1, h0, hb, hh, rr⟩ := I.ow i _ h
      obtain ⟨vs, eo, rrl⟩ := repO_lst rr
      subst eo
      have z := simS_at (f := fun k env => match k with
        | .int k => (match ixN xs.length k with
          | some j => .nx (env.set i (.ow (.lst (xs.set j d))))
          | none => .stuck)
        | _ => .stuck) (u := fun z H2 => rSetL (.ref p2) z v H2 fun H3 => D.nx σ H3) (D := D) sk I fun a w B2 H2 _ x2 I2 r2 => by
          cases a with
          | int k =>
            simp only
            cases e3 : ixN xs.length k with
            | none => trivial
            | some j =>
              obtain ⟨p3, ho2, e4, _, _, hh2, rr2⟩ := I2.ow i _ h
              obtain ⟨vs2, eo2, rrl2⟩ := repO_lst rr2
              subst eo2
              rw [e1] at e4
              cases e4
              cases rep_int (r2.rep I2.xs)
              exact fun q => ⟨p2, vs2, k, j, rfl, rfl, hh2, by rw [← rrl2.length]; exact e3, q σ B2 _ (I2.mut (o' := .lst _) (ho := .lst _) h e1 (mk_repO (reps_set (Rep.mono x2.b r) j rrl2)))⟩
          | _ => trivial
      exact z.wrap fun z => ⟨.ref p2, e1, z⟩
end
end Sm

set_option autoImplicit true
set_option Elab.async false
set_option linter.all false
set_option maxRecDepth 100000
set_option maxHeartbeats 4000000
namespace Sm
open PySem PySem.Spec PyProof.Rows L2

/-! ### the weakest reading that does what m does: the same for every context -/
def can {α β : Type} (R : RG α β) (K : PySem.W.Frag) (W : WX) (m : En → Res α) : L2.St → Hp → (β → Hp → Prop) → Prop := fun σ H Q =>
  ∃ B0 H0 env B, SI K B0 H0 env σ B H ∧ match m env with
    | .ok a => ∀ v B' H', Xt B H B' H' → R K H B' H' a v → Q v H'
    | .exc c fn fv => ∀ od B' H', Xt B H B' H' → XR K B' fn fv od → W (.ref (He.ga K c)) od σ H'
    | .stuck => False
theorem can_to {α β : Type} {R : RG α β} {K W t} {m : En → Res α} (h : Sim R K W t m) {σ H Q} (c : can R K W m σ H Q) : t σ H Q := by
  obtain ⟨B0, H0, env, B, I, k⟩ := c
  cases e : m env with
  | stuck => rw [e] at k; exact k.elim
  | exc c fn fv => rw [e] at k; exact h.exc I e k
  | ok a => rw [e] at k; exact h.ok I e fun v B' H' x _ r => k v B' H' x r
theorem can_sim {α β : Type} {R : RG α β} {K W} {m : En → Res α} : Sim R K W (can R K W m) m := by
  intro B0 H0 env σ B H I
  unfold Post
  cases e : m env with
  | stuck => trivial
  | exc c fn fv => exact fun Q q => ⟨B0, H0, env, B, I, by rw [e]; exact q⟩
  | ok a => exact fun Q q => ⟨B0, H0, env, B, I, by rw [e]; exact q⟩
theorem SE.can {α : Type} {X : Cx} {W : WX} {R : RG α V} {e : Expr} {m : En → Res α} (h : SE X W R e m) : PE X e (can R X.K W m) := by
  obtain ⟨t, p, s⟩ := h.ex
  exact ⟨fun pins st σ H Q I c => p.run pins st σ H Q I (can_to s c)⟩
theorem ST.can {X : Cx} {W : WX} {e : Expr} {m : En → Res Bool} (h : ST X W e m) : PT X e (can RB X.K W m) := by
  obtain ⟨t, p, s⟩ := h.ex
  exact ⟨fun pins st σ H Q I c => p.run pins st σ H Q I (can_to s c)⟩
def gcan (K : PySem.W.Frag) (f : D → En → Option En) (sl : List Nat) : TG := fun v σ H Q =>
  ∃ B0 H0 env env1 B d, SI K B0 H0 env σ B H ∧ Rep K B d v ∧ f d env = some env1 ∧ ∀ σ2 B2 H3, SI K B0 H0 env1 σ2 B2 H3 → Xt B H B2 H3 → Dif sl σ σ2 → Q σ2 H3
theorem STg.can {X : Cx} {tg : Expr} {f : D → En → Option En} {sl : List Nat} (h : STg X tg f sl) : PG X tg (gcan X.K f sl) := by
  obtain ⟨g, p, ok⟩ := h.ex
  refine ⟨fun pins s σ H v u Q I r c => ?_⟩
  obtain ⟨B0, H0, env, env1, B, d, J, rd, e, k⟩ := c
  exact p.run pins s σ H v u Q I r (ok B0 H0 env env1 σ B H d v J rd e Q k)
theorem gcan_ok {K : PySem.W.Frag} {f : D → En → Option En} {sl : List Nat} : TgOk K (gcan K f sl) f sl := fun B0 H0 env env1 σ B H d v I r e Q q => ⟨B0, H0, env, env1, B, d, I, r, e, q⟩

/-! ### comprehensions -/
def wipeE (env : En) : List Nat → En
  | [] => env
  | v :: vs => (wipeE env vs).set v .un
theorem SI.wipe {K B0 H0 env σ B H} (I : SI K B0 H0 env σ B H) : ∀ vs : List Nat, SI K B0 H0 (wipeE env vs) (wipe σ vs) B H
  | [] => I
  | v :: vs => (SI.wipe I vs).drop v none
/-- the list so far, turn by turn -/
def compL (mt : En → Res Bool) (me : En → Res D) (env : En) : List (En → Option En) → Res (List D)
  | [] => .ok []
  | b :: bs => match b env with
    | none => .stuck
    | some env1 => match mt env1 with
      | .ok true => (match me env1 with
        | .ok d => (match compL mt me env bs with
          | .ok ds => .ok (d :: ds)
          | _ => .stuck)
        | _ => .stuck)
      | .ok false => (match compL mt me env bs with
          | .ok ds => .ok ds
          | _ => .stuck)
      | _ => .stuck
def mComp (mi : En → Res (List (En → Option En))) (vs : List Nat) (mt : En → Res Bool) (me : En → Res D) : En → Res (List D) := mB mi fun bs env => if szB bs.length then compL mt me (wipeE env vs) bs else .stuck
abbrev W0 : WX := fun _ _ _ _ => False
theorem compL_noexc {mt me env} : ∀ {bs : List (En → Option En)} {c fn fv}, compL mt me env bs ≠ .exc c fn fv
  | [], _, _, _, h => by cases h
  | b :: bs, c, fn, fv, h => by
    unfold compL at h
    cases e1 : b env with
    | none => simp [e1] at h
    | some env1 =>
      simp only [e1] at h
      cases e2 : mt env1 with
      | stuck => simp [e2] at h
      | exc _ _ _ => simp [e2] at h
      | ok k =>
        simp only [e2] at h
        cases k with
        | true =>
          simp only at h
          cases e3 : me env1 with
          | stuck => simp [e3] at h
          | exc _ _ _ => simp [e3] at h
          | ok d =>
            simp only [e3] at h
            split at h <;> cases h
        | false =>
          simp only at h
          split at h <;> cases h
theorem wipe_idem (σ : L2.St) (vs : List Nat) : wipe (wipe σ vs) vs = wipe σ vs := by
  apply List.ext_getElem?
  intro j
  rw [wipe_get, wipe_get, wipe_length]
  by_cases h : j ∈ vs ∧ j < σ.length
  · rw [if_pos h, if_pos h]
  · rw [if_neg h]
theorem sim_comp {K : PySem.W.Frag} {W : WX} {wi : TI} {g : TG} {sl vs : List Nat} {tt : TT} {te : TE} {mi : En → Res (List (En → Option En))} {mt : En → Res Bool} {me : En → Res D} (hsl : ∀ i ∈ sl, i ∈ vs) (hi : Sim (RIT g sl) K W wi mi) (ht : Sim RB K W0 tt mt) (he : Sim RP K W0 te me) :
    Sim RF K W (tLc wi g tt te vs) (mComp mi vs mt me) := by
  refine Sim.bind (R := RIT g sl) (S := RF) (u := fun J σ H1 Q => ∀ D, H1 D = none → ∃ W : Nat → Nat → Hp → Prop, (∃ m, W 0 m (upd H1 D (.lst []))) ∧ ∀ i m H, W i m H →
    (J.stop i H ∧ Q (.ref D) H) ∨ (J.go i H ∧ ∃ Nx : Hp → Prop, (∀ H', Nx H' → ∃ m', m' < m ∧ W (i + 1) m' H') ∧ ∀ x H', J.yld i H x H' → g x (wipe σ vs) H' fun σ2 H2 => wipe σ2 vs = wipe σ vs ∧ tt σ2 H2 fun b H3 =>
      if b = true then te σ2 H3 fun y H4 => ∃ acc, H4 D = some (.lst acc) ∧ acc.length < sizeLine ∧ Nx (upd H4 D (.lst (acc ++ [y]))) else Nx H3)) hi fun B0 H0 env σ B H bs J B1 H1 I x wk => ?_
  by_cases c : szB bs.length = true
  · rw [if_pos c]
    have hsz := szB_ok c
    cases e : compL mt me (wipeE env vs) bs with
    | stuck => trivial
    | exc _ _ _ => exact absurd e compL_noexc
    | ok out =>
      refine fun Q q => fun Dl hD => ?_
      have bD : B1 Dl = none := I.xs.free hD
      refine ⟨fun i m H' => m = bs.length - i ∧ i ≤ bs.length ∧ ∃ B' acc ds rest, Ex B1 B' ∧ Ex H1 H' ∧ Ex B' H' ∧ (∀ a, B1 a = none → H1 a ≠ none → B' a = none) ∧ B' Dl = none ∧ H' Dl = some (.lst acc) ∧ Reps K B' ds acc ∧ acc.length ≤ i ∧ compL mt me (wipeE env vs) (bs.drop i) = .ok rest ∧ out = ds ++ rest,
        ⟨bs.length, by omega, Nat.zero_le _, B1, [], [], out, Ex.refl _, Ex.new hD, fun a u ea => by rw [upd_ne (ne_of_none (I.xs a u ea) hD)]; exact I.xs a u ea, fun _ h _ => h, bD, upd_same, by simp [Reps], Nat.le_refl _, by rw [List.drop_zero]; exact e, rfl⟩, ?_⟩
      rintro i m H' ⟨rfl, hi', B', acc, ds, rest, b1, h1, s1, o1, d1, l1, r1, z1, e1, eo⟩
      by_cases hlt : i < bs.length
      · refine .inr ⟨wk.go i B' H' hlt b1 h1 s1, fun H2 => ∃ B2 acc ds rest, Ex B1 B2 ∧ Ex H1 H2 ∧ Ex B2 H2 ∧ (∀ a, B1 a = none → H1 a ≠ none → B2 a = none) ∧ B2 Dl = none ∧ H2 Dl = some (.lst acc) ∧ Reps K B2 ds acc ∧ acc.length ≤ i + 1 ∧ compL mt me (wipeE env vs) (bs.drop (i + 1)) = .ok rest ∧ out = ds ++ rest,
          fun H2 ⟨B2, acc, ds, rest, z⟩ => ⟨bs.length - (i + 1), by omega, rfl, hlt, B2, acc, ds, rest, z⟩, fun y H2 hy => ?_⟩
        have hg : bs[i]? = some bs[i] := List.getElem?_eq_getElem hlt
        rw [List.drop_eq_getElem_cons hlt] at e1
        unfold compL at e1
        cases e2 : bs[i] (wipeE env vs) with
        | none => simp [e2] at e1
        | some env1 =>
          simp only [e2] at e1
          have I' : SI K B0 H0 env σ B' H' := I.xt ⟨b1, h1, s1, o1⟩
          refine wk.step i bs[i] B0 H0 (wipeE env vs) env1 (wipe σ vs) B' H' hg e2 (I'.wipe vs) b1 h1 y H2 hy _ fun σ2 B2 H3 I2 x2 df => ?_
          refine ⟨by rw [df vs hsl, wipe_idem], ?_⟩
          have D2 : B2 Dl = none := x2.off Dl d1 (by rw [l1]; exact fun z => by cases z)
          cases e3 : mt env1 with
          | stuck => simp [e3] at e1
          | exc _ _ _ => simp [e3] at e1
          | ok k =>
            simp only [e3] at e1
            refine ht.ok I2 e3 fun b B3 H4 x3 I3 rb => ?_
            cases rb
            have D3 : B3 Dl = none := x3.off Dl D2 (by rw [x2.h _ _ l1]; exact fun z => by cases z)
            have Xa : Xt B' H' B3 H4 := x2.trans x3
            cases k with
            | false =>
              simp only at e1
              rw [if_neg Bool.false_ne_true]
              cases e4 : compL mt me (wipeE env vs) (bs.drop (i + 1)) with
              | stuck => simp [e4] at e1
              | exc _ _ _ => simp [e4] at e1
              | ok rest' =>
                simp only [e4] at e1
                cases e1
                exact ⟨B3, acc, ds, rest, b1.trans Xa.b, h1.trans Xa.h, Xa.s, fun a g1 g2 => Xa.off a (o1 a g1 g2) (fun z => g2 (h1.free z)), D3, Xa.h _ _ l1, r1.mono Xa.b, by omega, rfl, eo⟩
            | true =>
              simp only at e1
              rw [if_pos rfl]
              cases e4 : me env1 with
              | stuck => simp [e4] at e1
              | exc _ _ _ => simp [e4] at e1
              | ok d =>
                simp only [e4] at e1
                cases e5 : compL mt me (wipeE env vs) (bs.drop (i + 1)) with
                | stuck => simp [e5] at e1
                | exc _ _ _ => simp [e5] at e1
                | ok rest' =>
                  simp only [e5] at e1
                  cases e1
                  refine he.ok I3 e4 fun v B4 H5 x4 I4 rd => ?_
                  have D4 : B4 Dl = none := x4.off Dl D3 (by rw [Xa.h _ _ l1]; exact fun z => by cases z)
                  have Xb : Xt B' H' B4 H5 := Xa.trans x4
                  refine ⟨acc, Xb.h _ _ l1, by omega, B4, acc ++ [v], ds ++ [d], rest', b1.trans Xb.b, ?_, ?_, fun a g1 g2 => Xb.off a (o1 a g1 g2) (fun z => g2 (h1.free z)), D4, upd_same, (r1.mono Xb.b).append (reps_one rd), by rw [List.length_append]; simp; exact z1, rfl, by rw [eo]; simp⟩
                  · exact (h1.trans Xb.h).mut hD
                  · intro a u ea
                    rw [upd_ne (ne_of_none ea D4)]
                    exact Xb.s a u ea
      · have ei : i = bs.length := by omega
        subst ei
        refine .inl ⟨wk.stop B' H' b1 h1 s1, ?_⟩
        rw [List.drop_length] at e1
        cases e1
        rw [List.append_nil] at eo
        subst eo
        refine q _ B' H' (x.trans ⟨b1, h1, s1, o1⟩) ⟨Dl, acc, rfl, x.h.free hD, d1, l1, r1⟩
  · rw [if_neg c]
    trivial
/-- a comprehension's parts -/
structure SLc (X : Cx) (W : WX) (elt tg iter : Expr) (ifs : List Expr) (scope : Scope) (own : List (Str × Nat)) (m : En → Res (List D)) : Prop where
  ex : ∃ wi g tt te, PI X tg iter wi ∧ (∀ (s : Shared) (H : Hp) (C : Addr) (cl : List (Str × Addr)) (fp : List Addr), PG (X.blk s H scope (compEnvC scope cl C X.env) fp) tg g) ∧ (∀ (s : Shared) (H : Hp) (C : Addr) (cl : List (Str × Addr)) (fp : List Addr), PTs (X.blk s H scope (compEnvC scope cl C X.env) fp) ifs tt) ∧
    (∀ (s : Shared) (H : Hp) (C : Addr) (cl : List (Str × Addr)) (fp : List Addr), PE (X.blk s H scope (compEnvC scope cl C X.env) fp) elt te) ∧ Sim RF X.K W (tLc wi g tt te (own.map (·.2))) m
/-- what is walked, for any target -/
structure SIc (X : Cx) (W : WX) (tg iter : Expr) (f : D → En → Option En) (mi : En → Res (List (En → Option En))) : Prop where
  ex : ∃ wi, PI X tg iter wi ∧ ∀ g sl, TgOk X.K g f sl → Sim (RI g sl) X.K W wi mi
structure SIcT (X : Cx) (W : WX) (tg iter : Expr) (f : D → En → Option En) (mi : En → Res (List (En → Option En))) : Prop where
  ex : ∃ wi, PI X tg iter wi ∧ ∀ g sl, TgOk X.K g f sl → Sim (RIT g sl) X.K W wi mi
theorem SIc.t {X W tg iter f mi} (h : SIc X W tg iter f mi) : SIcT X W tg iter f mi := let ⟨wi, p, k⟩ := h.ex; ⟨wi, p, fun g sl ok => (k g sl ok).imp fun _ _ _ _ _ r => Walk.t r⟩
section
variable {X : Cx} {W : WX} {elt tg iter : Expr} {ifs : List Expr} {scope : Scope} {own : List (Str × Nat)} {pos : Pos} {mi : En → Res (List (En → Option En))} {f : D → En → Option En} {sl : List Nat} {me : En → Res D} {mt : En → Res Bool} {m : En → Res (List D)}
theorem slc (hi : SIcT X W tg iter f mi) (hg : ∀ (s : Shared) (H : Hp) (C : Addr) (cl : List (Str × Addr)) (fp : List Addr), STg (X.blk s H scope (compEnvC scope cl C X.env) fp) tg f sl) (he : ∀ (s : Shared) (H : Hp) (C : Addr) (cl : List (Str × Addr)) (fp : List Addr), SE (X.blk s H scope (compEnvC scope cl C X.env) fp) W0 RP elt me)
    (hsl : ∀ i ∈ sl, i ∈ own.map (·.2) := by decide) : SLc X W elt tg iter [] scope own (mComp mi (own.map (·.2)) (fun _ => .ok true) me) := by
  obtain ⟨wi, pi, k⟩ := hi.ex
  exact ⟨wi, gcan X.K f sl, tYes, can RP X.K W0 me, pi, fun s H C cl fp => (hg s H C cl fp).can, fun s H C cl fp => pts_nil, fun s H C cl fp => (he s H C cl fp).can,
    sim_comp hsl (k _ _ gcan_ok) (fun B0 H0 env σ B H I Q q => q true B H (Xt.refl I.xs) rfl) can_sim⟩
theorem slc_if {cond : Expr} (hi : SIcT X W tg iter f mi) (hg : ∀ (s : Shared) (H : Hp) (C : Addr) (cl : List (Str × Addr)) (fp : List Addr), STg (X.blk s H scope (compEnvC scope cl C X.env) fp) tg f sl) (ht : ∀ (s : Shared) (H : Hp) (C : Addr) (cl : List (Str × Addr)) (fp : List Addr), ST (X.blk s H scope (compEnvC scope cl C X.env) fp) W0 cond mt)
    (he : ∀ (s : Shared) (H : Hp) (C : Addr) (cl : List (Str × Addr)) (fp : List Addr), SE (X.blk s H scope (compEnvC scope cl C X.env) fp) W0 RP elt me) (hsl : ∀ i ∈ sl, i ∈ own.map (·.2) := by decide) : SLc X W elt tg iter [cond] scope own (mComp mi (own.map (·.2)) mt me) := by
  obtain ⟨wi, pi, k⟩ := hi.ex
  exact ⟨wi, gcan X.K f sl, can RB X.K W0 mt, can RP X.K W0 me, pi, fun s H C cl fp => (hg s H C cl fp).can, fun s H C cl fp => pts_one (ht s H C cl fp).can, fun s H C cl fp => (he s H C cl fp).can,
    sim_comp hsl (k _ _ gcan_ok) can_sim can_sim⟩
theorem se_lc (h : SLc X W elt tg iter ifs scope own m) (hc : X.calm = true) (hN : X.N.Nodup) (ok : BlkOk X.N X.env.scope scope own) (hs : ∀ x, foldedSetIterable iter X.env x = pure x := by intro _; rfl) : SE X W RF (.ListComp elt [⟨tg, iter, ifs, 0⟩] scope pos) m :=
  let ⟨_, _, _, _, p1, p2, p3, p4, s⟩ := h.ex; ⟨_, pe_lc hc hN p1 ok p2 p3 p4 hs, s⟩
/-- x = [..] on one line, x a local -/
theorem ss_setLcF {y : Str} {py spos : Pos} (i : Nat) (h : SLc X W elt tg iter ifs scope own m) (hc : X.calm = true) (hN : X.N.Nodup) (ok : BlkOk X.N X.env.scope scope own) (hsw : swapsWith (.ListComp elt [⟨tg, iter, ifs, 0⟩] scope pos) (some (.Name y py)) spos.line X.env = pure true)
    (hy : X.N[i]? = some y := by rfl) (hyl : X.env.scope.names.lookup y = some .local := by rfl) (hs : ∀ x, foldedSetIterable iter X.env x = pure x := by intro _; rfl) : SS X W (.Assign [.Name y py] (.ListComp elt [⟨tg, iter, ifs, 0⟩] scope pos) spos) (mSetF i m) := by
  obtain ⟨_, _, _, _, p1, p2, p3, p4, s⟩ := h.ex
  refine ⟨_, ps_setLc hc hN hy hyl hsw p1 ok p2 p3 p4 hs, ?_⟩
  refine SimS.of (R := RF) (u := fun v D σ H => gName i v σ H D.nx) s fun B0 H0 env σ B H a v B1 H1 I0 x I r D => ?_
  obtain ⟨p, vs, e1, h1, h2, h3, h4⟩ := r
  subst e1
  exact fun q => q _ B1 H1 (I.setOw (o := .lst a) i (I0.xh.free h1) h2 h3 (mk_repO h4) fun j ys hj => I0.newOw h1 j ys hj)
theorem ss_setLc {y : Str} {py spos : Pos} (i : Nat) (h : SLc X W elt tg iter ifs scope own m) (hc : X.calm = true) (hN : X.N.Nodup) (ok : BlkOk X.N X.env.scope scope own) (hsw : swapsWith (.ListComp elt [⟨tg, iter, ifs, 0⟩] scope pos) (some (.Name y py)) spos.line X.env = pure true)
    (hy : X.N[i]? = some y := by rfl) (hyl : X.env.scope.names.lookup y = some .local := by rfl) (hs : ∀ x, foldedSetIterable iter X.env x = pure x := by intro _; rfl) : SS X W (.Assign [.Name y py] (.ListComp elt [⟨tg, iter, ifs, 0⟩] scope pos) spos) (mSet i (mFz m)) := by
  obtain ⟨_, _, _, _, p1, p2, p3, p4, s⟩ := h.ex
  refine ⟨_, ps_setLc hc hN hy hyl hsw p1 ok p2 p3 p4 hs, ?_⟩
  refine SimS.of (R := RP) (u := fun v D σ H => gName i v σ H D.nx) s.fz fun B0 H0 env σ B H a v B1 H1 _ x I r D => ?_
  exact fun q => q _ B1 H1 (I.setSh i r)
/-! iterables for any target -/
theorem ic_seq {me : En → Res D} (h : SE X W RP iter me) : SIc X W tg iter f (mSeqI me f) := let ⟨_, p, s⟩ := h.ex; ⟨_, pi_seq p, fun _ _ ok => sim_seqI ok s⟩
theorem SIc.it (h : SIc X W tg iter f mi) (k : STg X tg f sl) : SIt X W tg iter mi := let ⟨_, p, s⟩ := h.ex; let ⟨g, q, ok⟩ := k.ex; ⟨g, sl, _, q, p, s g sl ok⟩
end
/-! ### while -/
def whileM (mt : En → Res Bool) (body : En → SR) : Nat → En → SR
  | 0, _ => .stuck
  | n + 1, env => match mt env with
    | .ok true => (match body env with
      | .nx env2 => whileM mt body n env2
      | .ct env2 => whileM mt body n env2
      | .bk env2 => .nx env2
      | r => r)
    | .ok false => .nx env
    | .exc c fn fv => .exc env c fn fv
    | .stuck => .stuck
theorem sims_while {K W tc tb mt body} (n : Nat) (hc : Sim RB K W tc mt) (hb : SimS K W tb body) : SimS K W (tWhile tc tb) (whileM mt body n) := by
  intro B0 H0 env σ B H I D
  refine postS_of fun w0 => ?_
  generalize hr : whileM mt body n env = r at w0
  refine ⟨fun m σ' H' => ∃ env' B', SI K B0 H0 env' σ' B' H' ∧ whileM mt body m env' = r, ⟨n, env, B, I, hr⟩, fun m σ' H' hw => ?_⟩
  obtain ⟨env', B', I', e⟩ := hw
  cases m with
  | zero =>
    have e' : SR.stuck = r := e
    subst e'
    exact w0.elim
  | succ m =>
    unfold whileM at e
    cases e1 : mt env' with
    | stuck => simp only [e1] at e; subst e; exact w0.elim
    | exc c fn fv => simp only [e1] at e; subst e; exact hc.exc I' e1 fun od B2 H2 x r => w0 σ' B2 H2 od (I'.xt x) r
    | ok b =>
      simp only [e1] at e
      refine hc.ok I' e1 fun b' B2 H2 x I2 rb => ?_
      cases rb
      cases b with
      | false =>
        simp only at e
        subst e
        rw [if_neg Bool.false_ne_true]
        exact w0 σ' B2 H2 I2
      | true =>
        simp only at e
        rw [if_pos rfl]
        refine ⟨fun σ3 H3 => ∃ env3 B3, SI K B0 H0 env3 σ3 B3 H3 ∧ whileM mt body m env3 = r, fun σ3 H3 ⟨env3, B3, I3, e3⟩ => ⟨m, by omega, env3, B3, I3, e3⟩, ?_⟩
        refine (hb B0 H0 env' σ' B2 H2 I2 _).to ?_
        cases e2 : body env' with
        | nx env2 => simp only [e2] at e; exact fun σ3 B3 H4 I3 => ⟨env2, B3, I3, e⟩
        | ct env2 => simp only [e2] at e; exact fun σ3 B3 H4 I3 => ⟨env2, B3, I3, e⟩
        | bk env2 => simp only [e2] at e; subst e; exact w0
        | rt d => simp only [e2] at e; subst e; exact w0
        | rf d => simp only [e2] at e; subst e; exact w0
        | exc en c fn fv => simp only [e2] at e; subst e; exact w0
        | stuck => simp only [e2] at e; subst e; exact w0.elim
theorem ss_while {X : Cx} {W : WX} {c : Expr} {body : List Stmt} {pos : Pos} {mt : En → Res Bool} {m : En → SR} (n : Nat) (hp : PassesOwn (model X.prog X.w) X.A X.env X.xe) (hc : ST X W c mt) (hb : SB X W body m) : SS X W (.While c body [] pos) (whileM mt m n) := by
  obtain ⟨tc, pc, sc⟩ := hc.ex
  obtain ⟨tb, pb, sb⟩ := hb.ex
  exact ⟨_, ps_while hp pc pb, sims_while n sc sb⟩
end Sm

set_option autoImplicit true
set_option Elab.async false
set_option linter.all false
set_option maxRecDepth 100000
set_option maxHeartbeats 4000000
namespace Sm
open PySem PySem.Spec PyProof.Rows L2

/-! ### defs -/
def envOf (n : Nat) (ds : List D) : En := ds.map .sh ++ List.replicate (n - ds.length) .un
theorem SI.start {K : PySem.W.Frag} {B H : Hp} {ds : List D} {vs : List V} {N : List Str} (s : Ex B H) (r : Reps K B ds vs) : SI K B H (envOf N.length ds) (start N vs) B H := by
  have hl := r.length
  have no : ∀ (i : Nat) (o : Ob), (envOf N.length ds)[i]? ≠ some (Cl.ow o) := fun i o h => by
    unfold envOf at h
    by_cases hi : i < ds.length
    · rw [List.getElem?_append_left (by simpa using hi), List.getElem?_map, List.getElem?_eq_getElem hi] at h
      cases h
    · rw [List.getElem?_append_right (by simpa using hi), List.getElem?_replicate] at h
      split at h <;> cases h
  refine ⟨?_, Ex.refl _, Ex.refl _, s, fun _ h _ => h, fun i d h => ?_, fun i o h => absurd h (no i o), fun i j xs ys p h => absurd h (no i xs)⟩
  · unfold L2.start envOf
    rw [List.length_append, List.length_append, List.length_map, List.length_map, List.length_replicate, List.length_replicate, hl]
  · unfold envOf at h
    by_cases hi : i < ds.length
    · rw [List.getElem?_append_left (by simpa using hi), List.getElem?_map] at h
      cases e : ds[i]? with
      | none => rw [e] at h; cases h
      | some d' =>
        rw [e] at h
        cases h
        obtain ⟨v, hv, rv⟩ := r.get e
        refine ⟨v, ?_, rv⟩
        unfold L2.start
        rw [List.getElem?_append_left (by rw [List.length_map, ← hl]; exact hi), List.getElem?_map, hv]
        rfl
    · rw [List.getElem?_append_right (by simpa using hi), List.getElem?_replicate] at h
      split at h <;> cases h
def runD (n np : Nat) (m : En → SR) (ds : List D) : Res D := if ds.length = np then (match m (envOf n ds) with
  | .nx _ => .ok .non
  | .rt d => .ok d
  | .exc _ c fn fv => .exc c fn fv
  | _ => .stuck) else .stuck
/-- a def that hands back a new thing -/
def runF (n np : Nat) (m : En → SR) (ds : List D) : Res Ob := if ds.length = np then (match m (envOf n ds) with
  | .rf o => .ok o
  | .exc _ c fn fv => .exc c fn fv
  | _ => .stuck) else .stuck
def spD (K : PySem.W.Frag) (F : List D → Res D) : Sp := fun vs H Q E => ∃ B ds, Ex B H ∧ Reps K B ds vs ∧ match F ds with
  | .ok d => ∀ v B' H', Xt B H B' H' → Rep K B' d v → Q v H'
  | .exc c fn fv => ∀ od B' H', Xt B H B' H' → XR K B' fn fv od → E (.ref (He.ga K c)) od H'
  | .stuck => False
def spF (K : PySem.W.Frag) (F : List D → Res Ob) : Sp := fun vs H Q E => ∃ B ds, Ex B H ∧ Reps K B ds vs ∧ match F ds with
  | .ok o => ∀ p ho B' H', Xt B H B' H' → H p = none → B' p = none → H' p = some ho → RepO K B' o ho → Q (.ref p) H'
  | .exc c fn fv => ∀ od B' H', Xt B H B' H' → XR K B' fn fv od → E (.ref (He.ga K c)) od H'
  | .stuck => False
section
variable {P : Program} {w : World} {K : PySem.W.Frag} {mg : Str → Option Value} {base : Heap} {x qual : Str} {params : Arguments} {body : List Stmt} {scope : Scope} {dvs : List V} {kws : List (Str × V)} {f : Addr} {fd : FuncData} {N ps : List Str} {k : Nat} {m : En → SR}
theorem fn_D (F : FunD K x qual params body scope dvs kws f fd) (S : FnScope N ps scope)
    (hb : ∀ (cdv : Value) (A : Around) (outer : List Env) (s : Shared) (H : Hp) (E : XK), Room k (A.deeper (envOfC qual scope s.heap.objs.size f cdv)) → SB (cxOf (L2.CX P w) P w K mg base N qual scope f cdv A outer s H E) (fun cls d _ H => E cls d H) body m) :
    FnOk P w K mg base (L2.CX P w) (k + 1) f fd ps (spD K (runD N.length ps.length m)) := by
  have len : ∀ vs H Q E, spD K (runD N.length ps.length m) vs H Q E → vs.length = ps.length := fun vs H Q E h => by
    obtain ⟨B, ds, s, r, h⟩ := h
    by_cases hl : ds.length = ps.length
    · rw [← r.length]; exact hl
    · unfold runD at h
      rw [if_neg hl] at h
      exact h.elim
  refine F.ok S len fun cdv A outer s H vs Q E hr hsp => ?_
  obtain ⟨t, pt, st⟩ := (hb cdv A outer s H E hr).ex
  refine ⟨t, pt, ?_⟩
  have hl := len _ _ _ _ hsp
  obtain ⟨B, ds, sx, r, h⟩ := hsp
  have hl' : ds.length = ps.length := by rw [r.length]; exact hl
  unfold runD at h
  rw [if_pos hl'] at h
  refine (st B H (envOf N.length ds) (start N vs) B H (SI.start sx r) _).to ?_
  cases e : m (envOf N.length ds) with
  | nx env' => rw [e] at h; exact fun σ' B' H' I => h .non B' H' I.xt0 rfl
  | rt d => rw [e] at h; exact fun v B' H' y q => h v B' H' y q
  | rf d => rw [e] at h; exact h.elim
  | bk d => rw [e] at h; exact h.elim
  | ct d => rw [e] at h; exact h.elim
  | exc en c fn fv => rw [e] at h; exact fun σ' B' H' od I q => h od B' H' I.xt0 q
  | stuck => rw [e] at h; exact h.elim
theorem fn_F (F : FunD K x qual params body scope dvs kws f fd) (S : FnScope N ps scope)
    (hb : ∀ (cdv : Value) (A : Around) (outer : List Env) (s : Shared) (H : Hp) (E : XK), Room k (A.deeper (envOfC qual scope s.heap.objs.size f cdv)) → SB (cxOf (L2.CX P w) P w K mg base N qual scope f cdv A outer s H E) (fun cls d _ H => E cls d H) body m) :
    FnOk P w K mg base (L2.CX P w) (k + 1) f fd ps (spF K (runF N.length ps.length m)) := by
  have len : ∀ vs H Q E, spF K (runF N.length ps.length m) vs H Q E → vs.length = ps.length := fun vs H Q E h => by
    obtain ⟨B, ds, s, r, h⟩ := h
    by_cases hl : ds.length = ps.length
    · rw [← r.length]; exact hl
    · unfold runF at h
      rw [if_neg hl] at h
      exact h.elim
  refine F.ok S len fun cdv A outer s H vs Q E hr hsp => ?_
  obtain ⟨t, pt, st⟩ := (hb cdv A outer s H E hr).ex
  refine ⟨t, pt, ?_⟩
  have hl := len _ _ _ _ hsp
  obtain ⟨B, ds, sx, r, h⟩ := hsp
  have hl' : ds.length = ps.length := by rw [r.length]; exact hl
  unfold runF at h
  rw [if_pos hl'] at h
  refine (st B H (envOf N.length ds) (start N vs) B H (SI.start sx r) _).to ?_
  cases e : m (envOf N.length ds) with
  | nx env' => rw [e] at h; exact h.elim
  | rt d => rw [e] at h; exact h.elim
  | rf d => rw [e] at h; exact fun p ho B' H' y h0 h1 h2 q => h p ho B' H' y h0 h1 h2 q
  | bk d => rw [e] at h; exact h.elim
  | ct d => rw [e] at h; exact h.elim
  | exc en c fn fv => rw [e] at h; exact fun σ' B' H' od I q => h od B' H' I.xt0 q
  | stuck => rw [e] at h; exact h.elim
end
/-! ### calls -/
def mCall (F : List D → Res D) (dd : List D) (m : En → Res (List D)) : En → Res D := mB m fun ds _ => F (ds ++ dd)
def RFO : RG Ob V := fun K H B' H' o v => ∃ p ho, v = .ref p ∧ H p = none ∧ B' p = none ∧ H' p = some ho ∧ RepO K B' o ho
theorem late_FO : Late RFO := fun _ _ _ _ _ _ _ _ _ x ⟨p, ho, e1, h1, h2⟩ => ⟨p, ho, e1, x.h.free h1, h2⟩
def mCallF (F : List D → Res Ob) (dd : List D) (m : En → Res (List D)) : En → Res Ob := mB m fun ds _ => F (ds ++ dd)
theorem post_D {K : PySem.W.Frag} {W : WX} {σ : L2.St} {B H B1 H1 : Hp} {F : List D → Res D} {ds : List D} {vs : List V} (s : Ex B1 H1) (x : Xt B H B1 H1) (r : Reps K B1 ds vs) : Post RP K W σ B H (F ds) (fun Q => spD K F vs H1 Q (WE W σ)) := by
  unfold Post
  cases e : F ds with
  | stuck => trivial
  | ok d => exact fun Q q => ⟨B1, ds, s, r, by rw [e]; exact fun v B' H' y r2 => q v B' H' (x.trans y) r2⟩
  | exc c fn fv => exact fun Q q => ⟨B1, ds, s, r, by rw [e]; exact fun od B' H' y r2 => q od B' H' (x.trans y) r2⟩
theorem post_F {K : PySem.W.Frag} {W : WX} {σ : L2.St} {B H B1 H1 : Hp} {F : List D → Res Ob} {ds : List D} {vs : List V} (s : Ex B1 H1) (x : Xt B H B1 H1) (r : Reps K B1 ds vs) : Post RFO K W σ B H (F ds) (fun Q => spF K F vs H1 Q (WE W σ)) := by
  unfold Post
  cases e : F ds with
  | stuck => trivial
  | ok d => exact fun Q q => ⟨B1, ds, s, r, by rw [e]; exact fun p ho B' H' y h0 h1 h2 r2 => q (.ref p) B' H' (x.trans y) ⟨p, ho, rfl, x.h.free h0, h1, h2, r2⟩⟩
  | exc c fn fv => exact fun Q q => ⟨B1, ds, s, r, by rw [e]; exact fun od B' H' y r2 => q od B' H' (x.trans y) r2⟩
section
variable {X : Cx} {W : WX} {k : Nat} {f : Addr} {fd : FuncData} {ps : List Str} {dvs : List V} {dvl : List Value} {x : Str} {p pos : Pos} {e : Expr} {es : List Expr} {m : En → Res (List D)} {F : List D → Res D} {G : List D → Res Ob} {dd : List D}
theorem se_call (Fn : FnOk X.prog X.w X.K X.mg X.base (L2.CX X.prog X.w) k f fd ps (spD X.K F)) (hr : Room k X.A) (tk : Takes X W) (hm : X.mg x = some (.ref f)) (hk : PySem.W.keepIn X.K (.ref f) = true) (hb : Binds X.K fd ps dvl) (hd : Vals dvs dvl) (hdd : ∀ H, Reps X.K H dd dvs)
    (ha : SA X W (e :: es) m) (hg : Gl X x := by rfl) (hdb : (x == ("__debug__" : Str)) = false := by decide) (he : starEach (e :: es) X.env = (false, eval e X.env) :: starEach es X.env := by rfl) (hpl : (backTo pos (starEach es X.env)).any (·.1) = false := by rfl) :
    SE X W RP (.Call (.Name x p) (e :: es) [] pos) (mCall F dd m) := by
  obtain ⟨t, pa, s⟩ := ha.ex
  refine ⟨_, pe_callSD Fn hr hg hm hk hb hd (fun σ => passAt tk σ) pa hdb he hpl, ?_⟩
  exact Sim.bind (R := RA) (S := RP) (u := fun vs σ H Q => spD X.K F (vs ++ dvs) H Q (WE W σ)) s fun B0 H0 env σ B H a v B1 H1 I x r => post_D I.xs x (r.append (hdd B1))
theorem se_callF (Fn : FnOk X.prog X.w X.K X.mg X.base (L2.CX X.prog X.w) k f fd ps (spF X.K G)) (hr : Room k X.A) (tk : Takes X W) (hm : X.mg x = some (.ref f)) (hk : PySem.W.keepIn X.K (.ref f) = true) (hb : Binds X.K fd ps dvl) (hd : Vals dvs dvl) (hdd : ∀ H, Reps X.K H dd dvs)
    (ha : SA X W (e :: es) m) (hg : Gl X x := by rfl) (hdb : (x == ("__debug__" : Str)) = false := by decide) (he : starEach (e :: es) X.env = (false, eval e X.env) :: starEach es X.env := by rfl) (hpl : (backTo pos (starEach es X.env)).any (·.1) = false := by rfl) :
    SE X W RFO (.Call (.Name x p) (e :: es) [] pos) (mCallF G dd m) := by
  obtain ⟨t, pa, s⟩ := ha.ex
  refine ⟨_, pe_callSD Fn hr hg hm hk hb hd (fun σ => passAt tk σ) pa hdb he hpl, ?_⟩
  exact Sim.bind (R := RA) (S := RFO) (u := fun vs σ H Q => spF X.K G (vs ++ dvs) H Q (WE W σ)) s fun B0 H0 env σ B H a v B1 H1 I x r => post_F I.xs x (r.append (hdd B1))
/-- where a list of one's own is handed over, and a flat thing comes back -/
theorem RTs.reps {K B H} (s : Ex B H) : ∀ {ds : List D} {vs : List V}, RTs K B H ds vs → Reps K H ds vs
  | [], vs, h => by simp only [Reps]; exact h
  | d :: ds, vs, h => by
    obtain ⟨v, r, e, h1, h2⟩ := h
    simp only [Reps]
    exact ⟨v, r, e, h1.rep s, RTs.reps s h2⟩
def flat1 (r : Res D) : Res D := match r with
  | .ok d => (match fv d with
    | some _ => .ok d
    | none => .stuck)
  | _ => .stuck
def mCallT (F : List D → Res D) (dd : List D) (m : En → Res (List D)) : En → Res D := mB m fun ds _ => flat1 (F (ds ++ dd))
theorem fv_rep_back {K H H' d v w} (h : fv d = some w) (r : Rep K H d v) : Rep K H' d v := by
  cases d with
  | non => simp only [Rep] at r ⊢; exact r
  | bl b => simp only [Rep] at r ⊢; exact r
  | int b => simp only [Rep] at r ⊢; exact r
  | str b => simp only [Rep] at r ⊢; exact r
  | _ => cases h
theorem se_callT (Fn : FnOk X.prog X.w X.K X.mg X.base (L2.CX X.prog X.w) k f fd ps (spD X.K F)) (hr : Room k X.A) (tk : Takes X W) (hm : X.mg x = some (.ref f)) (hk : PySem.W.keepIn X.K (.ref f) = true) (hb : Binds X.K fd ps dvl) (hd : Vals dvs dvl) (hdd : ∀ H, Reps X.K H dd dvs)
    (ha : SAT X W (e :: es) m) (hg : Gl X x := by rfl) (hdb : (x == ("__debug__" : Str)) = false := by decide) (he : starEach (e :: es) X.env = (false, eval e X.env) :: starEach es X.env := by rfl) (hpl : (backTo pos (starEach es X.env)).any (·.1) = false := by rfl) :
    SE X W RP (.Call (.Name x p) (e :: es) [] pos) (mCallT F dd m) := by
  obtain ⟨t, pa, s⟩ := ha.ex
  refine ⟨_, pe_callSD Fn hr hg hm hk hb hd (fun σ => passAt tk σ) pa hdb he hpl, ?_⟩
  refine Sim.bind (R := RAT) (S := RP) (u := fun vs σ H Q => spD X.K F (vs ++ dvs) H Q (WE W σ)) s fun B0 H0 env σ B H a v B1 H1 I x r => ?_
  have r1 : Reps X.K H1 (a ++ dd) (v ++ dvs) := (RTs.reps I.xs r).append (hdd H1)
  cases e1 : F (a ++ dd) with
  | stuck => trivial
  | exc c fn fv => trivial
  | ok d =>
    unfold flat1
    simp only
    cases e2 : fv d with
    | none => trivial
    | some w =>
      refine fun Q q => ⟨H1, a ++ dd, Ex.refl _, r1, ?_⟩
      rw [e1]
      refine fun z B' H' y r2 => q z B1 H' (x.trans ⟨Ex.refl _, y.h, I.xs.trans y.h, fun _ h _ => h⟩) (fv_rep_back e2 r2)
end
/-- a new list | a new thing, taken as a value | stored as one's own | handed back -/
def mFzO (m : En → Res Ob) : En → Res D := fun env => (m env).bind fun o => .ok o.d
theorem Sim.fzO {K W t m} (h : Sim RFO K W t m) : Sim RP K W t (mFzO m) := by
  intro B0 H0 env σ B H I
  have q := h B0 H0 env σ B H I
  unfold mFzO
  cases e : m env with
  | stuck => trivial
  | exc c fn fv => rw [e] at q; exact q
  | ok a =>
    rw [e] at q
    intro Q z
    refine q Q fun v B' H' x r => ?_
    obtain ⟨p, ho, e1, h1, h2, h3, h4⟩ := r
    have sb : Ex B' (upd B' p ho) := Ex.new h2
    refine z v (upd B' p ho) H' ⟨x.b.trans sb, x.h, fun b o eb => ?_, fun b h5 h6 => ?_⟩ ?_
    · by_cases hb : b = p
      · subst hb; rw [upd_same] at eb; rw [h3]; exact eb
      · rw [upd_ne hb] at eb; exact x.s b o eb
    · by_cases hb : b = p
      · subst hb; exact absurd h1 h6
      · rw [upd_ne hb]; exact x.off b h5 h6
    · subst e1
      exact (h4.mono sb).rep upd_same
theorem SE.fzO {X W e m} (h : SE X W RFO e m) : SE X W RP e (mFzO m) := let ⟨t, p, s⟩ := h.ex; ⟨t, p, s.fzO⟩
def asL : Ob → Res (List D)
  | .lst xs => .ok xs
  | _ => .stuck
def mLO (m : En → Res Ob) : En → Res (List D) := fun env => (m env).bind asL
theorem Sim.lO {K W t m} (h : Sim RFO K W t m) : Sim RF K W t (mLO m) := by
  intro B0 H0 env σ B H I
  have q := h B0 H0 env σ B H I
  unfold mLO
  cases e : m env with
  | stuck => trivial
  | exc c fn fv => rw [e] at q; exact q
  | ok a =>
    rw [e] at q
    cases a with
    | lst xs =>
      intro Q z
      refine q Q fun v B' H' x r => ?_
      obtain ⟨p, ho, e1, h1, h2, h3, h4⟩ := r
      obtain ⟨vs, e2, h5⟩ := repO_lst h4
      subst e2
      exact z v B' H' x ⟨p, vs, e1, h1, h2, h3, h5⟩
    | _ => trivial
theorem SE.lO {X W e m} (h : SE X W RFO e m) : SE X W RF e (mLO m) := let ⟨t, p, s⟩ := h.ex; ⟨t, p, s.lO⟩
end Sm

set_option autoImplicit true
set_option Elab.async false
set_option linter.all false
set_option maxRecDepth 100000
set_option maxHeartbeats 4000000
/-! What is known of a module's names, as the defs' proofs take it. -/
namespace Sm
open PySem PySem.Spec PyProof.Rows L2

structure Facts (fa : List He.Fa) (fn : List He.DefD) (K : PySem.W.Frag) (mg : Str → Option Value) : Prop where
  says : He.SaysD fa fn K
  glo : ∀ x, (He.Fa.glo x).ok K = true → mg x = some (.ref (He.ga K x))
  free : ∀ x, (He.Fa.free x).ok K = true → mg x = none
section
variable {fa : List He.Fa} {fn : List He.DefD} {K : PySem.W.Frag} {mg : Str → Option Value}
theorem Facts.gl (c : Facts fa fn K mg) (i : Nat) {x : Str} (h : fa[i]? = some (.glo x)) : mg x = some (.ref (He.ga K x)) := c.glo x (c.says.fact i h)
theorem Facts.fr (c : Facts fa fn K mg) (i : Nat) {x : Str} (h : fa[i]? = some (.free x)) : mg x = none := c.free x (c.says.fact i h)
noncomputable def Facts.fd (c : Facts fa fn K mg) (i : Nat) {d : He.DefD} (h : fn[i]? = some d) : FuncData := (c.says.def_ i h).choose
theorem Facts.fun (c : Facts fa fn K mg) (i : Nat) {d : He.DefD} (h : fn[i]? = some d) : FunD K d.name d.qual d.params d.body d.scope (d.dvs K) (d.kws K) (He.fAd K d.at_) (c.fd i h) := (c.says.def_ i h).choose_spec
end
/-- a def at the top: its facts as a datum -/
def topAt (p : Program) (i : Nat) : Stmt := p.main.body.getD i (.Pass ⟨0, 0, 0, 0⟩)
def dfT (x : Str) (st : Stmt) : He.DefD := ⟨(x, none), x, x, defArgs st, defBody st, defScope st, [], []⟩
end Sm

set_option autoImplicit true
set_option Elab.async false
set_option linter.all false
set_option maxRecDepth 100000
set_option maxHeartbeats 4000000
/-! The rest of the built-ins. -/
namespace Sm
open PySem PySem.Spec PyProof.Rows L2

/-! ### ranges in comprehensions -/
section
variable {X : Cx} {W : WX} {tg a b : Expr} {m ma mb : En → Res D} {f : D → En → Option En} {p pos : Pos}
theorem ic_rng1 (hm : X.mg "range" = none) (h : SE X W RT a m) (hg : Gl X "range" := by rfl) (hs : starEach [a] X.env = [(false, eval a X.env)] := by rfl) :
    SIc X W tg (.Call (.Name "range" p) [a] [] pos) f (mRng1 m f) := by
  obtain ⟨t, pa, s⟩ := h.ex
  refine ⟨_, pi_range1 hg hm (pa_cons pa pa_nil hs) hs, fun g sl ok => ?_⟩
  refine Sim.bind (R := RT) (S := RI g sl) (u := fun v σ H1 R => ∃ j : Int, [v] = [V.int j] ∧ -(2 ^ 62) ≤ j ∧ j < 2 ^ 62 ∧ R (Itr 0 j.toNat) H1) s fun B0 H0 env σ B H d v B1 H1 I x r => ?_
  cases d with
  | int j =>
    cases rep_int (r.rep I.xs)
    show Post _ _ _ _ _ _ (Res.bind (if rngB 0 j = true then Res.ok (rng 0 j) else .stuck) _) _
    by_cases c : rngB 0 j = true
    · rw [if_pos c]
      have c' := of_decide_eq_true (show decide _ = true from c)
      refine fun Q q => ⟨j, rfl, c'.2.2.1, c'.2.2.2, q _ B1 H1 x ?_⟩
      have w := walk_rng ok B1 0 j.toNat
      show Walk X.K B1 (Itr 0 j.toNat) g sl ((rng 0 j).map f)
      unfold rng
      rw [Int.sub_zero]
      exact w
    · rw [if_neg c]
      trivial
  | _ => trivial
theorem ic_rng2 (hm : X.mg "range" = none) (ha : SE X W RT a ma) (hb : SE X W RT b mb) (hg : Gl X "range" := by rfl)
    (hs : starEach [a, b] X.env = [(false, eval a X.env), (false, eval b X.env)] := by rfl) (hs2 : starEach [b] X.env = [(false, eval b X.env)] := by rfl) :
    SIc X W tg (.Call (.Name "range" p) [a, b] [] pos) f (mRng2 ma mb f) := by
  obtain ⟨ta, pa, sa⟩ := ha.ex
  obtain ⟨tb, pb, sb⟩ := hb.ex
  refine ⟨_, pi_range2 hg hm (pa_cons pa (pa_cons pb pa_nil hs2) (by rw [hs, hs2])) hs hs2, fun g sl ok => ?_⟩
  intro B0 H0 env σ B H I
  unfold mRng2 mB
  cases e1 : ma env with
  | stuck => trivial
  | exc c fn fv => exact fun Q q => sa.exc I e1 q
  | ok d =>
    show Post (RI g sl) X.K W σ B H ((mb env).bind fun b => (rngD d b).bind fun xs => .ok (xs.map f)) _
    cases e2 : mb env with
    | stuck => trivial
    | exc c fn fv => exact fun Q q => sa.ok I e1 fun v B1 H1 x I1 r1 => sb.exc I1 e2 fun od B' H' y z => q od B' H' (x.trans y) z
    | ok e =>
      show Post (RI g sl) X.K W σ B H ((rngD d e).bind fun xs => .ok (xs.map f)) _
      cases d with
      | int i =>
        cases e with
        | int j =>
          show Post _ _ _ _ _ _ (Res.bind (if rngB i j = true then Res.ok (rng i j) else .stuck) _) _
          by_cases c : rngB i j = true
          · rw [if_pos c]
            have c' := of_decide_eq_true (show decide _ = true from c)
            intro Q q
            refine sa.ok I e1 fun v B1 H1 x I1 r1 => ?_
            refine sb.ok I1 e2 fun w B2 H2 y I2 r2 => ?_
            cases rep_int (r1.rep I1.xs)
            cases rep_int (r2.rep I2.xs)
            exact ⟨i, j, rfl, c', q _ B2 H2 (x.trans y) (walk_rng ok B2 i (j - i).toNat)⟩
          · rw [if_neg c]
            trivial
        | _ => trivial
      | _ => trivial
end
/-! ### pop, reverse -/
def eraseD (xs : List D) (k : Nat) : List D := xs.eraseIdx k
theorem Reps.eraseIdx {K B} : ∀ {ds : List D} {vs : List V} (n : Nat), Reps K B ds vs → Reps K B (ds.eraseIdx n) (vs.eraseIdx n)
  | [], vs, n, h => by simp only [Reps] at h; subst h; simp [Reps]
  | d :: ds, vs, 0, h => by
    simp only [Reps] at h
    obtain ⟨v, r, e, h1, h2⟩ := h
    subst e
    exact h2
  | d :: ds, vs, n + 1, h => by
    simp only [Reps] at h
    obtain ⟨v, r, e, h1, h2⟩ := h
    subst e
    simp only [List.eraseIdx_cons_succ, Reps]
    exact ⟨v, _, rfl, h1, Reps.eraseIdx n h2⟩
def popG (xs ds : List D) : Option (D × List D) := match ds with
  | [.int i] => if decide (-(2 ^ 63) ≤ i ∧ i < 2 ^ 63) then (match seqIndex? i xs.length with
    | some k => xs[k]?.map fun d => (d, xs.eraseIdx k)
    | none => none) else none
  | _ => none
theorem pop_at : PopR rPopAt popG := by
  intro K B H l xs ds ys d vs us h r r2 e
  match ds, e, r2 with
  | [.int i], e, r2 =>
    obtain ⟨v, eu, rv⟩ := reps1 r2
    cases rep_int rv
    subst eu
    have e' : (if decide (-(2 ^ 63) ≤ i ∧ i < 2 ^ 63) = true then (match seqIndex? i xs.length with
      | some k => xs[k]?.map fun d => (d, xs.eraseIdx k)
      | none => none) else none) = some (d, ys) := e
    split at e'
    · rename_i c
      have c2 := of_decide_eq_true c
      cases e1 : seqIndex? i xs.length with
      | none => rw [e1] at e'; cases e'
      | some k =>
        rw [e1] at e'
        cases e2 : xs[k]? with
        | none => simp only [e2] at e'; cases e'
        | some d' =>
          simp only [e2] at e'
          cases e'
          obtain ⟨v, hv, rv⟩ := r.get e2
          exact ⟨v, vs.eraseIdx k, rv, r.eraseIdx k, fun Q q => ⟨l, vs, i, k, v, rfl, rfl, h, c2.1, c2.2, by rw [← r.length]; exact e1, hv, q⟩⟩
    · cases e'
def pop0G (xs : List D) : Option (D × List D) := xs[xs.length - 1]?.map fun d => (d, xs.dropLast)
theorem Reps.dropLast {K B} {ds : List D} {vs : List V} (r : Reps K B ds vs) : Reps K B ds.dropLast vs.dropLast := by
  rw [List.dropLast_eq_take, List.dropLast_eq_take, r.length]
  exact r.take _
theorem pop_last : PopR rPop (on0 pop0G) := by
  intro K B H l xs ds ys d vs us h r r2 e
  match ds, e, r2 with
  | [], e, r2 =>
    have eu : us = [] := by simpa only [Reps] using r2
    subst eu
    have e' : (xs[xs.length - 1]?.map fun d => (d, xs.dropLast)) = some (d, ys) := e
    cases e2 : xs[xs.length - 1]? with
    | none => rw [e2] at e'; cases e'
    | some d' =>
      rw [e2] at e'
      cases e'
      obtain ⟨v, hv, rv⟩ := r.get e2
      exact ⟨v, vs.dropLast, rv, r.dropLast, fun Q q => ⟨l, vs, v, rfl, rfl, h, by rw [← r.length]; exact hv, q⟩⟩
theorem mut_rev : ∀ (K : PySem.W.Frag) (B H : Hp) (l : Addr) (xs ys : List D) (vs : List V), H l = some (.lst vs) → Reps K B xs vs → revG xs = some ys → ∃ ws, Reps K B ys ws ∧ ∀ Q : VK, Q .non (upd H l (.lst ws)) → rReverse (.ref l) [] H Q := by
  intro K B H l xs ys vs h r e
  cases e
  exact ⟨vs.reverse, r.reverse, fun Q q => ⟨l, vs, rfl, rfl, h, q⟩⟩

/-! ### isinstance of built-in types -/
def tyN : D → Option String
  | .non => some "NoneType"
  | .bl _ => some "bool"
  | .int _ => some "int"
  | .str _ => some "str"
  | .tup _ => some "tuple"
  | .lst _ => some "list"
  | .scr _ => some "list"
  | .dct _ _ => some "dict"
  | .dtt _ _ => none
  | .err _ _ _ => none
  | .obj _ _ _ => none
theorem tyx_of {K H d v T} (r : Rep K H d v) (h : tyN d = some T) : TyX K H v (.type T) := by
  cases d with
  | non => cases h; simp only [Rep] at r; subst r; exact .base .non
  | bl b => cases h; simp only [Rep] at r; subst r; exact .base (.bl b)
  | int b => cases h; simp only [Rep] at r; subst r; exact .base (.int b)
  | str b => cases h; simp only [Rep] at r; subst r; exact .base (.str b)
  | tup xs =>
    cases h
    simp only [Rep] at r
    obtain ⟨a, vs, e, h1, h2, h3⟩ := r
    subst e
    rcases h1 with h1 | h1
    · rcases h1 with h1 | ⟨o, h1⟩
      · exact .base (.tup h1)
      · exact .fTuple h1
    · obtain ⟨o, its, n, hl, hc, _⟩ := h1
      exact .kTuple hl hc
  | lst xs =>
    cases h
    simp only [Rep] at r
    obtain ⟨a, vs, e, h1, h2⟩ := r
    subst e
    exact .base (.lst h1)
  | scr ns =>
    cases h
    simp only [Rep] at r
    obtain ⟨a, e, h1⟩ := r
    subst e
    rcases h1 with h1 | h1
    · rcases h1 with h1 | ⟨o, h1⟩
      · exact .base (.lst h1)
      · exact .base (.frz h1)
    · obtain ⟨o, its, n, hl, hc, _⟩ := h1
      exact .kList hl hc
  | dct ks ds =>
    cases h
    simp only [Rep] at r
    obtain ⟨a, vs, e, h1, h2, h3⟩ := r
    subst e
    exact .base (.dK h1)
  | obj c fn fv => cases h
  | dtt ks ds => cases h
  | err c fn fv => cases h
def isB (t T : String) : Bool := t == T || (t == "bool" && T == "int")
def tyNs : List String := ["NoneType", "bool", "int", "str", "tuple", "list", "dict"]
theorem tyN_mem {d T} (h : tyN d = some T) : T ∈ tyNs := by
  cases d <;> cases h <;> decide
def isiD (Ts : List String) (d : D) : Option D := (tyN d).map fun t => .bl (Ts.any (isB t))
def kitsOk (T : String) : Bool := tyNs.all fun t => kitB t T == some (isB t T)
theorem kit_one {K T t} (hk : kitsOk T = true) (h : t ∈ tyNs) : PySem.W.kitOne K (.type t) (.type T) = some (isB t T) := kit_ty (eq_of_beq (List.all_eq_true.mp hk t h))
section
variable {X : Cx} {W : WX} {e : Expr} {m : En → Res D} {p pos : Pos}
theorem se_isi {x : Str} {px : Pos} (T : String) (hm : X.mg "isinstance" = none) (hx : X.mg x = none) (h : SE X W RT e m) (hvx : bootBuiltins x = some (.type T) := by decide +kernel) (hk : kitsOk T = true := by decide +kernel)
    (hv : bootBuiltins "isinstance" = some (.builtin "isinstance") := by decide +kernel) (hg : Gl X "isinstance" := by rfl) (hgx : Gl X x := by rfl) (hn : x ≠ "__name__" := by decide) (hdb : (x == ("__debug__" : Str)) = false := by decide)
    (he : starEach [e, .Name x px] X.env = (false, eval e X.env) :: starEach [.Name x px] X.env := by rfl) (he2 : starEach [.Name x px] X.env = (false, eval (.Name x px) X.env) :: starEach [] X.env := by rfl)
    (hpl : (backTo pos (starEach [.Name x px] X.env)).any (·.1) = false := by rfl) : SE X W RP (.Call (.Name "isinstance" p) [e, .Name x px] [] pos) (mUn (isiD [T]) m) := by
  obtain ⟨t, pa, s⟩ := h.ex
  refine ⟨_, pe_callB call_isi hg hm hv (pa_cons pa (pa_cons (pe_bltn (v := .ty T) hgx hx hvx rfl hn hdb) pa_nil he2) he) (by decide) (by decide) he hpl, ?_⟩
  refine Sim.bind (R := RT) (S := RP) (u := fun v σ H Q => rIsi X.K [v, .ty T] H Q) s fun B0 H0 env σ B H d v B1 H1 I y r => ?_
  show Post _ _ _ _ _ _ (ofO (isiD [T] d)) _
  unfold isiD
  cases e1 : tyN d with
  | none => trivial
  | some t =>
    refine fun Q q => ⟨v, .ty T, .type t, .type T, isB t T, rfl, .ty T, tyx_of (r.rep I.xs) e1, kit_one hk (tyN_mem e1), q _ B1 H1 y ?_⟩
    show V.bl (isB t T) = V.bl ([T].any (isB t))
    rw [List.any_cons, List.any_nil, Bool.or_false]
/-- isinstance(e, (list, tuple)) -/
theorem se_isiT {x z : Str} {px pz pt : Pos} {kk : Nat} (T U : String) (hm : X.mg "isinstance" = none) (hx : X.mg x = none) (hz : X.mg z = none) (h : SE X W RT e m) (hvx : bootBuiltins x = some (.type T) := by decide +kernel) (hvz : bootBuiltins z = some (.type U) := by decide +kernel)
    (hk : kitsOk T = true := by decide +kernel) (hk2 : kitsOk U = true := by decide +kernel)
    (hv : bootBuiltins "isinstance" = some (.builtin "isinstance") := by decide +kernel) (hg : Gl X "isinstance" := by rfl) (hgx : Gl X x := by rfl) (hgz : Gl X z := by rfl) (hn : x ≠ "__name__" := by decide) (hdb : (x == ("__debug__" : Str)) = false := by decide)
    (hnz : z ≠ "__name__" := by decide) (hdz : (z == ("__debug__" : Str)) = false := by decide)
    (he : starEach [e, .Tuple [.Name x px, .Name z pz] kk pt] X.env = (false, eval e X.env) :: starEach [.Tuple [.Name x px, .Name z pz] kk pt] X.env := by rfl)
    (he2 : starEach [.Tuple [.Name x px, .Name z pz] kk pt] X.env = (false, eval (.Tuple [.Name x px, .Name z pz] kk pt) X.env) :: starEach [] X.env := by rfl)
    (he3 : starEach [.Name x px, .Name z pz] X.env = (false, eval (.Name x px) X.env) :: starEach [.Name z pz] X.env := by rfl) (he4 : starEach [.Name z pz] X.env = (false, eval (.Name z pz) X.env) :: starEach [] X.env := by rfl)
    (hpl : (backTo pos (starEach [.Tuple [.Name x px, .Name z pz] kk pt] X.env)).any (·.1) = false := by rfl) : SE X W RP (.Call (.Name "isinstance" p) [e, .Tuple [.Name x px, .Name z pz] kk pt] [] pos) (mUn (isiD [T, U]) m) := by
  obtain ⟨t, pa, s⟩ := h.ex
  refine ⟨_, pe_callB call_isiT hg hm hv (pa_cons pa (pa_cons (pe_tup (pa_cons (pe_bltn (v := .ty T) hgx hx hvx rfl hn hdb) (pa_cons (pe_bltn (v := .ty U) hgz hz hvz rfl hnz hdz) pa_nil he4) he3)) pa_nil he2) he) (by decide) (by decide) he hpl, ?_⟩
  refine Sim.bind (R := RT) (S := RP) (u := fun v σ H1 Q => [V.ty T, V.ty U].length ≤ sizeLine ∧ ∀ q, H1 q = none → rIsiT X.K [v, .ref q] (upd H1 q (.tup [.ty T, .ty U])) Q) s fun B0 H0 env σ B H d v B1 H1 I y r => ?_
  show Post _ _ _ _ _ _ (ofO (isiD [T, U] d)) _
  unfold isiD
  cases e1 : tyN d with
  | none => trivial
  | some t =>
    refine fun Q q => ⟨by show 2 ≤ sizeLine; rw [sizeLine_eq]; omega, fun a ha => ⟨v, a, [.ty T, .ty U], .type t, [.type T, .type U], isB t T || isB t U, rfl, upd_same, .cons (.ty T) (.cons (.ty U) .nil), tyx_of ((r.rep I.xs).mono (Ex.new ha)) e1, ?_, ?_⟩⟩
    · refine kitAny_cons (kit_one hk (tyN_mem e1)) (fun h1 => ?_) (fun h1 => by rw [h1]; rfl)
      rw [h1, Bool.false_or]
      exact kitAny_cons (kit_one hk2 (tyN_mem e1)) (fun h2 => by rw [h2]; exact kitAny_nil) (fun h2 => h2)
    · refine q _ B1 _ (y.trans (Xt.out I.xs ha)) ?_
      show V.bl (isB t T || isB t U) = V.bl ([T, U].any (isB t))
      rw [List.any_cons, List.any_cons, List.any_nil, Bool.or_false]
end
end Sm

set_option autoImplicit true
set_option Elab.async false
set_option linter.all false
set_option maxRecDepth 100000
set_option maxHeartbeats 4000000
/-! Methods of texts, lists and tuples. -/
namespace Sm
open PySem PySem.Spec PyProof.Rows L2

/-! ### a method of a built-in thing; tuples that are known to bear no names of their own too -/
def tyW (K : PySem.W.Frag) (T : String) (x : V) (H : Hp) : Prop := tyV K T x H ∨ (T = "tuple" ∧ ∃ p xs, x = .ref p ∧ SqT K H p xs ∧ NoD K H p)
theorem tyW_is {X : Cx} {pins : List (Addr × Obj)} {σ : L2.St} {H : Hp} {s : Shared} {T : String} {x : V} {v : Value} (I : Inv X pins σ H s) (r : RelV x v) (ty : tyW X.K T x H) :
    s.TypeIs v T ∧ ∀ a, v = .ref a → ∃ ob, s.heap.get? a = some ob ∧ ob.dict = none := by
  rcases ty with ty | ⟨eT, p, xs, ex, h1, h2⟩
  · exact tyV_is I r ty
  · subst ex
    cases (show v = Value.ref p from r)
    subst eT
    obtain ⟨its, rv, ⟨o, ho, hc, ex2⟩, _⟩ := I.tuple h1
    refine ⟨⟨o, ho, hc⟩, fun a ea => ?_⟩
    cases ea
    refine ⟨o, ho, ?_⟩
    rcases h2 with ⟨o2, u, h3, h4⟩ | ⟨o2, h3, h4⟩
    · have q := (show ObjOk X.prog X.w H s.heap p (.frz o2 u) from I.hok p _ h3).1
      rw [ho] at q
      cases q
      exact h4
    · have q := I.kIn _ _ h3
      rw [ho] at q
      cases q
      exact h4
def tBW0 (K : PySem.W.Frag) (T : String) (r : V → List V → Hp → VK → Prop) (to : TE) : TE := fun σ H Q => to σ H fun x H1 => tyW K T x H1 ∧ r x [] H1 Q
def tBW (K : PySem.W.Frag) (T : String) (r : V → List V → Hp → VK → Prop) (to : TE) (t : TA) : TE := fun σ H Q => to σ H fun x H1 => tyW K T x H1 ∧ t σ H1 fun xs H2 => r x xs H2 Q
section
variable {X : Cx} {o e : Expr} {es : List Expr} {to : TE} {t : TA} {name : Str} {apos cpos : Pos} {T id : String} {r : V → List V → Hp → VK → Prop}
theorem pe_bw0 (pa : PlainAttrs T) (slot : Slot T name id) (hty : typeOf (.builtin id) = pure (.type "method_descriptor")) (hm : MtR X id r) (ho : PE X o to)
    (hbase : attributeBase o name X.env (eval o X.env) = eval o X.env := by rfl) (hline : (apos.endLine == cpos.line) = true := by rfl) : PE X (.Call (.Attribute o name apos) [] [] cpos) (tBW0 X.K T r to) := by
  refine ⟨fun pins s σ H Q I h => ?_⟩
  refine wpAny_Call_method0_late hbase hline (thn (ho.run pins s σ H _ I h) fun v s1 ⟨x, H1, I1, r1, ty, q1⟩ => ?_)
  obtain ⟨h1, h2⟩ := tyW_is I1 r1 ty
  exact ⟨T, id, pa, slot, hty, h1, h2, Calls.callWith_builtin rfl (PySem.evalArgs_none (hm pins s1 σ H1 x [] v [] Q I1 r1 .nil q1))⟩
theorem pe_bw (pa : PlainAttrs T) (slot : Slot T name id) (hty : typeOf (.builtin id) = pure (.type "method_descriptor")) (hm : MtR X id r) (ho : PE X o to) (ha : PA X (e :: es) t)
    (hbase : attributeBase o name X.env (eval o X.env) = eval o X.env := by rfl)
    (hfew : ((backTo cpos (starEach (e :: es) X.env)).all (fun x => !x.1) && (backToKw cpos (keywordEach [] X.env)).all (fun x => x.1.isSome)
      && decide ((e :: es).length + ([] : List Keyword).length + (if ([] : List Keyword).isEmpty then 0 else 1) < 30)) = true := by rfl)
    (hline : (apos.endLine == cpos.line) = true := by rfl) (hs : starEach (e :: es) X.env = (false, eval e X.env) :: starEach es X.env := by rfl) (hplain : (backTo cpos (starEach es X.env)).any (·.1) = false := by rfl) :
    PE X (.Call (.Attribute o name apos) (e :: es) [] cpos) (tBW X.K T r to t) := by
  refine ⟨fun pins s σ H Q I h => ?_⟩
  refine wpAny_Call_method_late hbase hfew hline rfl (thn (ho.run pins s σ H _ I h) fun v s1 ⟨x, H1, I1, r1, ty, q1⟩ => ?_)
  obtain ⟨h1, h2⟩ := tyW_is I1 r1 ty
  refine ⟨T, id, pa, slot, hty, h1, h2, ?_⟩
  have hA := ha.run cpos pins s1 σ H1 _ I1 q1
  rw [hs] at hA ⊢
  refine Calls.callWith_builtin (by show (false || (backTo cpos (starEach es X.env)).any (·.1)) = false; rw [hplain] <;> rfl) (Calls.evalArgs_plain ?_)
  exact thn hA fun us s2 ⟨vs, H2, I2, r2, q2⟩ => hm pins s2 σ H2 x vs v us Q I2 r1 r2 q2
end
def okT (T : String) : D → Bool
  | .str _ => T == "str"
  | .lst _ => T == "list"
  | .scr _ => T == "list"
  | .tup _ => T == "tuple"
  | _ => false
theorem tyW_of {K G B H d x T} (s : Ex B H) (r : RT K G B H d x) (h : okT T d = true) : tyW K T x H := by
  have r1 := r.rep s
  cases d with
  | str z => simp only [Rep] at r1; subst r1; exact .inl (eq_of_beq h)
  | lst xs =>
    simp only [Rep] at r1
    obtain ⟨a, vs, e, h1, h2⟩ := r1
    subst e
    exact .inl (.inl ⟨eq_of_beq h, vs, SqL.of h1⟩)
  | scr ns =>
    simp only [Rep] at r1
    obtain ⟨a, e, h1⟩ := r1
    subst e
    exact .inl (.inl ⟨eq_of_beq h, _, h1⟩)
  | tup xs =>
    simp only [Rep] at r1
    obtain ⟨a, vs, e, h1, h2, h3⟩ := r1
    subst e
    exact .inr ⟨eq_of_beq h, a, vs, rfl, h1, h2⟩
  | _ => cases h
/-- the method's reading does what f says -/
def SRM {α : Type} (R : RG α V) (K : PySem.W.Frag) (r : V → List V → Hp → VK → Prop) (f : D → List D → Option α) : Prop :=
  ∀ (B H : Hp) (x : V) (d : D) (xs : List V) (ds : List D) (z : α), Ex B H → RT K H B H d x → RTs K B H ds xs → f d ds = some z → ∀ Q : VK, (∀ v B' H', Xt B H B' H' → R K H B' H' z v → Q v H') → r x xs H Q
def mMeth {α : Type} (T : String) (f : D → List D → Option α) (mo : En → Res D) (ma : En → Res (List D)) : En → Res α := mB mo fun d => if okT T d then mB ma fun ds _ => ofO (f d ds) else fun _ => .stuck
theorem sim_meth {α : Type} {R : RG α V} (lt : Late R) {K W T} {r : V → List V → Hp → VK → Prop} {f : D → List D → Option α} {to : TE} {t : TA} {mo : En → Res D} {ma : En → Res (List D)} (hr : SRM R K r f) (ho : Sim RT K W to mo) (ha : Sim RAT K W t ma) :
    Sim R K W (tBW K T r to t) (mMeth T f mo ma) := by
  intro B0 H0 env σ B H I
  unfold mMeth mB
  cases e1 : mo env with
  | stuck => trivial
  | exc c fn fv => exact fun Q q => ho.exc I e1 q
  | ok d =>
    show Post R K W σ B H ((if okT T d = true then fun env => (ma env).bind fun ds => ofO (f d ds) else fun _ => .stuck) env) _
    by_cases c : okT T d = true
    · rw [if_pos c]
      cases e2 : ma env with
      | stuck => trivial
      | exc c' fn fv => exact fun Q q => ho.ok I e1 fun v B1 H1 x I1 r1 => ⟨tyW_of I1.xs r1 c, ha.exc I1 e2 fun od B' H' y z => q od B' H' (x.trans y) z⟩
      | ok ds =>
        show Post R K W σ B H (ofO (f d ds)) _
        cases e3 : f d ds with
        | none => trivial
        | some z =>
          intro Q q
          refine ho.ok I e1 fun v B1 H1 x I1 r1 => ⟨tyW_of I1.xs r1 c, ?_⟩
          refine ha.ok I1 e2 fun us B2 H2 y I2 r2 => ?_
          exact hr B2 H2 v d us ds z I2.xs (r1.xt y) r2 e3 Q fun w B' H' s2 r3 => q w B' H' ((x.trans y).trans s2) (lt _ _ _ _ _ _ _ _ _ (x.trans y) r3)
    · rw [if_neg c]
      trivial
section
variable {X : Cx} {W : WX} {o e : Expr} {es : List Expr} {name : Str} {apos cpos : Pos} {T id : String} {α : Type} {R : RG α V} {f : D → List D → Option α} {r : V → List V → Hp → VK → Prop} {mo : En → Res D} {ma : En → Res (List D)}
theorem se_meth (lt : Late R) (pa : PlainAttrs T) (slot : Slot T name id) (hty : typeOf (.builtin id) = pure (.type "method_descriptor")) (hm : MtR X id r) (hr : SRM R X.K r f) (ho : SE X W RT o mo) (ha : SAT X W (e :: es) ma)
    (hbase : attributeBase o name X.env (eval o X.env) = eval o X.env := by rfl)
    (hfew : ((backTo cpos (starEach (e :: es) X.env)).all (fun x => !x.1) && (backToKw cpos (keywordEach [] X.env)).all (fun x => x.1.isSome)
      && decide ((e :: es).length + ([] : List Keyword).length + (if ([] : List Keyword).isEmpty then 0 else 1) < 30)) = true := by rfl)
    (hline : (apos.endLine == cpos.line) = true := by rfl) (hs : starEach (e :: es) X.env = (false, eval e X.env) :: starEach es X.env := by rfl) (hplain : (backTo cpos (starEach es X.env)).any (·.1) = false := by rfl) :
    SE X W R (.Call (.Attribute o name apos) (e :: es) [] cpos) (mMeth T f mo ma) :=
  let ⟨_, po, so⟩ := ho.ex; let ⟨_, pa', sa⟩ := ha.ex; ⟨_, pe_bw pa slot hty hm po pa' hbase hfew hline hs hplain, sim_meth lt hr so sa⟩
theorem se_meth0 (lt : Late R) (pa : PlainAttrs T) (slot : Slot T name id) (hty : typeOf (.builtin id) = pure (.type "method_descriptor")) (hm : MtR X id r) (hr : SRM R X.K r f) (ho : SE X W RT o mo)
    (hbase : attributeBase o name X.env (eval o X.env) = eval o X.env := by rfl) (hline : (apos.endLine == cpos.line) = true := by rfl) :
    SE X W R (.Call (.Attribute o name apos) [] [] cpos) (mMeth T f mo mNil) :=
  let ⟨_, po, so⟩ := ho.ex; ⟨_, pe_bw0 pa slot hty hm po hbase hline, sim_meth lt hr so (t := tNil) (fun _ _ _ _ B H I Q q => q [] B H (Xt.refl I.xs) rfl)⟩
end
end Sm

set_option autoImplicit true
set_option Elab.async false
set_option linter.all false
set_option maxRecDepth 100000
set_option maxHeartbeats 4000000
/-! The methods index, count, upper, join. -/
namespace Sm
open PySem PySem.Spec PyProof.Rows L2
section
variable {X : Cx}
/-! ### l.count(x), t.index(x), data -/
def rCountD (K : PySem.W.Frag) : V → List V → Hp → VK → Prop := fun x xs H Q => ∃ (a : Addr) (y : V) (d : PyData) (ds : List PyData), x = V.ref a ∧ xs = [y] ∧ Dp K H (V.ref a) (.list ds) ∧ Dp K H y d ∧
  SeqAt.shaped (.list ds) = true ∧ SeqAt.shaped d = true ∧ Q (.int (ds.countP fun z => PyData.eqv z d : Nat)) H
theorem mt_countD (hu : X.A.units + 65 < cLine) : MtR X "list.count" (rCountD X.K) := by
  intro pins s σ H x xs v us Q I rx rxs h
  obtain ⟨a, y, d, ds, rfl, rfl, hl, hy, sl, sd, q⟩ := h
  cases rx
  cases rxs with
  | cons ry rt =>
    rename_i uy ut
    cases rt
    obtain ⟨bs, r1⟩ := Dp.reads I d y uy hy ry
    have hxs : PyData.canLayAll0 ds = true := SeqAt.canLay_of_shaped sl
    have hroom : X.A.units + 1 + min (PyData.depthAll ds) d.depth < cLine := room_in_shaped sd hu
    cases hl with
    | lst hs ha =>
      obtain ⟨its, rv, ⟨⟨cls, dd, data, sls⟩, n, ho, hc, hdn, hdt⟩, hlen⟩ := I.list hs
      simp only at hc hdt
      subst hc hdt
      obtain ⟨as, h4⟩ := Dp.readsAll I ds _ its ha rv
      have hmap : its.map (SeqAt.readOf s.heap) = ds := SeqAt.readsAll_map ds its as hxs h4
      refine call_meets PySem.F.slot_list_count ⟨_, ho, rfl⟩ PySem.F.entry_list_count (PySem.F.args_list_count_2 _ _)
        (SeqAt.list_countAt a its.toArray n dd sls uy (fun u => PyData.eqv (SeqAt.readOf s.heap u) d)) ⟨ho, SeqAt.items_eqAt (vs := its.toArray) (show ReadsAll s.heap its.toArray.toList ds as from h4) r1 hxs (SeqAt.canLay_of_shaped sd) hroom, ?_⟩
      have ec : its.toArray.toList.countP (fun u => PyData.eqv (SeqAt.readOf s.heap u) d) = ds.countP fun z => PyData.eqv z d := by
        rw [← hmap, List.countP_map]
        rfl
      refine ⟨.int (ds.countP fun z => PyData.eqv z d : Nat), H, I.tok _, ⟨s.toks, ?_⟩, q⟩
      show Value.int ((its.toArray.toList.countP (fun u => PyData.eqv (SeqAt.readOf s.heap u) d) : Nat) : Int) s.toks = _
      rw [ec]
def rIndexT (K : PySem.W.Frag) : V → List V → Hp → VK → Prop := fun x xs H Q => ∃ (a : Addr) (y : V) (d : PyData) (ds : List PyData) (j : Nat) (z : PyData), x = V.ref a ∧ xs = [y] ∧ Dp K H (V.ref a) (.tuple ds) ∧ Dp K H y d ∧
  SeqAt.shaped (.tuple ds) = true ∧ SeqAt.shaped d = true ∧ ds[j]? = some z ∧ PyData.eqv z d = true ∧ (∀ (m : Nat) (z' : PyData), m < j → ds[m]? = some z' → PyData.eqv z' d = false) ∧ Q (.int (j : Nat)) H
theorem mt_indexT (hu : X.A.units + 65 < cLine) : MtR X "tuple.index" (rIndexT X.K) := by
  intro pins s σ H x xs v us Q I rx rxs h
  obtain ⟨a, y, d, ds, j, z, rfl, rfl, hl, hy, sl, sd, hz, hzj, hno, q⟩ := h
  cases rx
  cases rxs with
  | cons ry rt =>
    rename_i uy ut
    cases rt
    obtain ⟨bs, r1⟩ := Dp.reads I d y uy hy ry
    have hxs : PyData.canLayAll0 ds = true := SeqAt.canLay_of_shaped sl
    have hroom : X.A.units + 1 + min (PyData.depthAll ds) d.depth < cLine := room_in_shaped sd hu
    cases hl with
    | tup hs ha =>
      obtain ⟨its, rv, ⟨⟨cls, dd, data, sls⟩, ho, hc, n, hdt⟩, hlen⟩ := I.tuple hs
      simp only at hc hdt
      subst hc hdt
      obtain ⟨as, h4⟩ := Dp.readsAll I ds _ its ha rv
      have hn : its.length = ds.length := SeqAt.ReadsAll.length ds its as h4
      have hmap : its.map (SeqAt.readOf s.heap) = ds := SeqAt.readsAll_map ds its as hxs h4
      obtain ⟨hjd, _⟩ := List.getElem?_eq_some_iff.mp hz
      have hjl : j < its.length := by omega
      have hj : j < its.toArray.size := by simpa using hjl
      have at_ : ∀ (m : Nat) (hm : m < its.toArray.size) (z' : PyData), ds[m]? = some z' → SeqAt.readOf s.heap its.toArray[m] = z' := by
        intro m hm z' hz'
        have hml : m < its.length := by simpa using hm
        rw [← hmap, List.getElem?_map, List.getElem?_eq_getElem hml] at hz'
        have e1 : SeqAt.readOf s.heap its[m] = z' := Option.some.inj (show some (SeqAt.readOf s.heap its[m]) = some z' from hz')
        simpa using e1
      refine call_meets PySem.F.slot_tuple_index ⟨_, ho, rfl⟩ PySem.F.entry_tuple_index (PySem.F.args_tuple_index_2 _ _)
        (TI.tuple_indexAt a its.toArray n dd sls uy (fun u => PyData.eqv (SeqAt.readOf s.heap u) d) j hj ?_ ?_) ⟨ho, SeqAt.items_eqAt (vs := its.toArray) (show ReadsAll s.heap its.toArray.toList ds as from h4) r1 hxs (SeqAt.canLay_of_shaped sd) hroom, ?_⟩
      · show PyData.eqv (SeqAt.readOf s.heap its.toArray[j]) d = true
        rw [at_ j hj z hz]
        exact hzj
      · intro m hm hmj
        have hmd : m < ds.length := by omega
        have hz' : ds[m]? = some ds[m] := List.getElem?_eq_getElem hmd
        show PyData.eqv (SeqAt.readOf s.heap its.toArray[m]) d = false
        rw [at_ m hm _ hz']
        exact hno m _ hmj hz'
      · exact ⟨.int (j : Nat), H, I.tok _, ⟨_, rfl⟩, q⟩
end
/-! ### their mirrors -/
def lstDat (d : D) : Option (List PyData) := match dat d with
  | some (.list ps) => if SeqAt.shaped (.list ps) then some ps else none
  | _ => none
def tupDat (d : D) : Option (List PyData) := match dat d with
  | some (.tuple ps) => if SeqAt.shaped (.tuple ps) then some ps else none
  | _ => none
def oneDat (d : D) : Option PyData := match dat d with
  | some p => if SeqAt.shaped p then some p else none
  | none => none
theorem lstDat_inv {d ps} (h : lstDat d = some ps) : dat d = some (.list ps) ∧ SeqAt.shaped (.list ps) = true := by
  unfold lstDat at h
  split at h
  · split at h
    · cases h; exact ⟨by assumption, by assumption⟩
    · cases h
  · cases h
theorem tupDat_inv {d ps} (h : tupDat d = some ps) : dat d = some (.tuple ps) ∧ SeqAt.shaped (.tuple ps) = true := by
  unfold tupDat at h
  split at h
  · split at h
    · cases h; exact ⟨by assumption, by assumption⟩
    · cases h
  · cases h
theorem oneDat_inv {d p} (h : oneDat d = some p) : dat d = some p ∧ SeqAt.shaped p = true := by
  unfold oneDat at h
  split at h
  · split at h
    · cases h; exact ⟨by assumption, by assumption⟩
    · cases h
  · cases h
def firstEq (ps : List PyData) (q : PyData) : Option Nat := ps.findIdx? fun z => PyData.eqv z q
theorem firstEq_inv {ps q j} (h : firstEq ps q = some j) : ∃ z, ps[j]? = some z ∧ PyData.eqv z q = true ∧ ∀ (m : Nat) (z' : PyData), m < j → ps[m]? = some z' → PyData.eqv z' q = false := by
  unfold firstEq at h
  rw [List.findIdx?_eq_some_iff_getElem] at h
  obtain ⟨hj, h1, h2⟩ := h
  refine ⟨ps[j], List.getElem?_eq_getElem hj, h1, fun m z' hm hz => ?_⟩
  have hm' : m < ps.length := by omega
  rw [List.getElem?_eq_getElem hm'] at hz
  cases hz
  have := h2 m hm
  simpa using this
def indexD (d : D) (ds : List D) : Option D := match ds with
  | [y] => (match lstDat d, oneDat y with
    | some ps, some q => (firstEq ps q).map fun j => .int (j : Nat)
    | _, _ => none)
  | _ => none
def indexT (d : D) (ds : List D) : Option D := match ds with
  | [y] => (match tupDat d, oneDat y with
    | some ps, some q => (firstEq ps q).map fun j => .int (j : Nat)
    | _, _ => none)
  | _ => none
def countD (d : D) (ds : List D) : Option D := match ds with
  | [y] => (match lstDat d, oneDat y with
    | some ps, some q => some (.int (ps.countP fun z => PyData.eqv z q : Nat))
    | _, _ => none)
  | _ => none
theorem rts1 {K B H d us} (s : Ex B H) (h : RTs K B H [d] us) : ∃ v, us = [v] ∧ Rep K H d v := by
  obtain ⟨v, r, e, h1, h2⟩ := h
  have h3 : r = [] := h2
  subst h3
  exact ⟨v, e, h1.rep s⟩
theorem rep_ref_list {K H d v ps} (r : Rep K H d v) (h : dat d = some (.list ps)) : ∃ a, v = .ref a := by
  cases d with
  | lst xs => simp only [Rep] at r; obtain ⟨a, vs, e, _⟩ := r; exact ⟨a, e⟩
  | scr xs => simp only [Rep] at r; obtain ⟨a, e, _⟩ := r; exact ⟨a, e⟩
  | tup xs => simp only [dat] at h; cases hx : dats xs <;> rw [hx] at h <;> cases h
  | _ => simp only [dat] at h; cases h
theorem rep_ref_tup {K H d v ps} (r : Rep K H d v) (h : dat d = some (.tuple ps)) : ∃ a, v = .ref a := by
  cases d with
  | tup xs => simp only [Rep] at r; obtain ⟨a, vs, e, _⟩ := r; exact ⟨a, e⟩
  | lst xs => simp only [dat] at h; cases hx : dats xs <;> rw [hx] at h <;> cases h
  | _ => simp only [dat] at h; cases h
theorem sm_index {K} : SRM RP K (rIndexD K) indexD := by
  intro B H x d xs ds z s rx rs hf Q q
  unfold indexD at hf
  split at hf
  · rename_i y
    split at hf
    · rename_i ps p e1 e2
      obtain ⟨a1, a2⟩ := lstDat_inv e1
      obtain ⟨b1, b2⟩ := oneDat_inv e2
      cases e3 : firstEq ps p with
      | none => rw [e3] at hf; cases hf
      | some j =>
        rw [e3] at hf
        cases hf
        obtain ⟨z, h1, h2, h3⟩ := firstEq_inv e3
        obtain ⟨v, ev, rv⟩ := rts1 s rs
        obtain ⟨a, ea⟩ := rep_ref_list (rx.rep s) a1
        subst ea
        exact ⟨a, v, p, ps, j, z, rfl, ev, dp_of (rx.rep s) a1, dp_of rv b1, a2, b2, h1, h2, h3, q _ B H (Xt.refl s) rfl⟩
    · cases hf
  · cases hf
theorem sm_indexT {K} : SRM RP K (rIndexT K) indexT := by
  intro B H x d xs ds z s rx rs hf Q q
  unfold indexT at hf
  split at hf
  · rename_i y
    split at hf
    · rename_i ps p e1 e2
      obtain ⟨a1, a2⟩ := tupDat_inv e1
      obtain ⟨b1, b2⟩ := oneDat_inv e2
      cases e3 : firstEq ps p with
      | none => rw [e3] at hf; cases hf
      | some j =>
        rw [e3] at hf
        cases hf
        obtain ⟨z, h1, h2, h3⟩ := firstEq_inv e3
        obtain ⟨v, ev, rv⟩ := rts1 s rs
        obtain ⟨a, ea⟩ := rep_ref_tup (rx.rep s) a1
        subst ea
        exact ⟨a, v, p, ps, j, z, rfl, ev, dp_of (rx.rep s) a1, dp_of rv b1, a2, b2, h1, h2, h3, q _ B H (Xt.refl s) rfl⟩
    · cases hf
  · cases hf
theorem sm_count {K} : SRM RP K (rCountD K) countD := by
  intro B H x d xs ds z s rx rs hf Q q
  unfold countD at hf
  split at hf
  · rename_i y
    split at hf
    · rename_i ps p e1 e2
      obtain ⟨a1, a2⟩ := lstDat_inv e1
      obtain ⟨b1, b2⟩ := oneDat_inv e2
      cases hf
      obtain ⟨v, ev, rv⟩ := rts1 s rs
      obtain ⟨a, ea⟩ := rep_ref_list (rx.rep s) a1
      subst ea
      exact ⟨a, v, p, ps, rfl, ev, dp_of (rx.rep s) a1, dp_of rv b1, a2, b2, q _ B H (Xt.refl s) rfl⟩
    · cases hf
  · cases hf
/-! ### texts -/
def upperD (d : D) (ds : List D) : Option D := match d, ds with
  | .str a, [] => if Nat.ble a.length 5592405 then some (.str (Txt.upper a)) else none
  | _, _ => none
theorem sm_upper {K} : SRM RP K (fun x xs H Q => ∃ a, x = .str a ∧ xs = [] ∧ a.length ≤ 5592405 ∧ Q (.str (Txt.upper a)) H) upperD := by
  intro B H x d xs ds z s rx rs hf Q q
  unfold upperD at hf
  split at hf
  · rename_i a
    split at hf
    · rename_i c
      cases hf
      have ex : xs = [] := rs
      subst ex
      exact ⟨a, rep_str (rx.rep s), rfl, Nat.le_of_ble_eq_true c, q _ B H (Xt.refl s) rfl⟩
    · cases hf
  · cases hf
def strsD : List D → Option (List Str)
  | [] => some []
  | .str x :: ds => (strsD ds).map (x :: ·)
  | _ => none
theorem strs_reps {K H} : ∀ {ds : List D} {vs : List V} {xs : List Str}, Reps K H ds vs → strsD ds = some xs → vs = xs.map V.str
  | [], vs, xs, r, h => by cases h; simp only [Reps] at r; exact r
  | .str x :: ds, vs, xs, r, h => by
    simp only [Reps] at r
    obtain ⟨v, q, e, h1, h2⟩ := r
    subst e
    have hv := rep_str h1
    subst hv
    have h' : (strsD ds).map (x :: ·) = some xs := h
    cases e2 : strsD ds with
    | none => rw [e2] at h'; cases h'
    | some ys =>
      rw [e2] at h'
      cases h'
      rw [strs_reps h2 e2]
      rfl
  | .non :: _, _, _, _, h => by cases h
  | .bl _ :: _, _, _, _, h => by cases h
  | .int _ :: _, _, _, _, h => by cases h
  | .tup _ :: _, _, _, _, h => by cases h
  | .lst _ :: _, _, _, _, h => by cases h
  | .scr _ :: _, _, _, _, h => by cases h
  | .obj _ _ _ :: _, _, _, _, h => by cases h
  | .dct _ _ :: _, _, _, _, h => by cases h
  | .dtt _ _ :: _, _, _, _, h => by cases h
  | .err _ _ _ :: _, _, _, _, h => by cases h
def seqStrs : D → Option (List Str)
  | .lst xs => strsD xs
  | .tup xs => strsD xs
  | _ => none
def joinD (d : D) (ds : List D) : Option D := match d, ds with
  | .str a, [y] => (match seqStrs y with
    | some ys => if Nat.ble ((ys.map (·.length)).sum + ys.length * a.length) 16777216 then some (.str (Txt.join a ys)) else none
    | none => none)
  | _, _ => none
theorem seqStrs_rep {K H d v ys} (r : Rep K H d v) (h : seqStrs d = some ys) : ∃ p, v = .ref p ∧ (SqL K H p (ys.map V.str) ∨ SqT K H p (ys.map V.str)) := by
  cases d with
  | lst xs =>
    simp only [Rep] at r
    obtain ⟨a, vs, e, h1, h2⟩ := r
    have e2 := strs_reps h2 h
    subst e2
    exact ⟨a, e, .inl (SqL.of h1)⟩
  | tup xs =>
    simp only [Rep] at r
    obtain ⟨a, vs, e, h1, _, h2⟩ := r
    have e2 := strs_reps h2 h
    subst e2
    exact ⟨a, e, .inr h1⟩
  | _ => cases h
theorem sm_join {K} : SRM RP K (fun x xs H Q => ∃ a p, ∃ ys : List Str, x = .str a ∧ xs = [.ref p] ∧ (SqL K H p (ys.map V.str) ∨ SqT K H p (ys.map V.str)) ∧
    (ys.map (·.length)).sum + ys.length * a.length ≤ 16777216 ∧ Q (.str (Txt.join a ys)) H) joinD := by
  intro B H x d xs ds z s rx rs hf Q q
  unfold joinD at hf
  split at hf
  · rename_i a y
    split at hf
    · rename_i ys e1
      split at hf
      · rename_i c
        cases hf
        obtain ⟨v, ev, rv⟩ := rts1 s rs
        obtain ⟨p, ep, hp⟩ := seqStrs_rep rv e1
        subst ev ep
        exact ⟨a, p, ys, rep_str (rx.rep s), rfl, hp, Nat.le_of_ble_eq_true c, q _ B H (Xt.refl s) rfl⟩
      · cases hf
    · cases hf
  · cases hf
end Sm

set_option autoImplicit true
set_option Elab.async false
set_option linter.all false
set_option maxRecDepth 100000
set_option maxHeartbeats 4000000
namespace Sm
open PySem PySem.Spec PyProof.Rows L2

/-! ### list * int -/
def cut64 (k : Int) : Bool := decide (-(2 ^ 63) ≤ k ∧ k < 2 ^ 63)
def mulL : D → D → Option (List D)
  | .lst xs, .int k => if cut64 k && szB (xs.length * k.toNat) then some (List.replicate k.toNat xs).flatten else none
  | _, _ => none
theorem Reps.rep {K B} {ds : List D} {vs : List V} (r : Reps K B ds vs) : ∀ n : Nat, Reps K B (List.replicate n ds).flatten (List.replicate n vs).flatten
  | 0 => by simp [Reps]
  | n + 1 => by
    rw [List.replicate_succ, List.replicate_succ, List.flatten_cons, List.flatten_cons]
    exact r.append (Reps.rep r n)
theorem sr_mulL {K} : SR2 RF K rRep mulL := by
  intro B H x y d e z s rx ry hf Q q
  cases d with
  | lst xs =>
    cases e with
    | int k =>
      obtain ⟨a, vs, e1, h1, r1⟩ := rx.list s
      subst e1
      cases rep_int (ry.rep s)
      have hf' : (if (cut64 k && szB (xs.length * k.toNat)) = true then some (List.replicate k.toNat xs).flatten else none) = some z := hf
      split at hf'
      · rename_i c
        cases hf'
        have c2 := Bool.and_eq_true_iff.mp c
        have hk := of_decide_eq_true (show decide _ = true from c2.1)
        exact ⟨a, k, vs, rfl, rfl, h1, hk.1, hk.2, by rw [← r1.length]; exact szB_ok c2.2, fun p hp => q _ _ _ (Xt.out s hp) ⟨p, _, rfl, hp, s.free hp, upd_same, r1.rep _⟩⟩
      · cases hf'
    | _ => cases hf
  | _ => cases hf
theorem se_mulL {X : Cx} {W : WX} {a b : Expr} {ma mb : En → Res D} {pos : Pos} (ha : SE X W RT a ma) (hb : SE X W RT b mb) : SE X W RF (.BinOp a .Mult b pos) (mOp mulL ma mb) := se_op late_F op_rep sr_mulL ha hb

/-! ### min, max of two; all, any -/
def f2 {α : Type} (f : D → D → Option α) : List D → Res α
  | [d, e] => ofO (f d e)
  | _ => .stuck
theorem rts2 {K B H d e us} (s : Ex B H) (h : RTs K B H [d, e] us) : ∃ v w, us = [v, w] ∧ Rep K H d v ∧ Rep K H e w := by
  obtain ⟨v, r, e1, h1, w, r2, e2, h2, h3⟩ := h
  have h4 : r2 = [] := h3
  subst h4
  subst e2
  exact ⟨v, w, e1, h1.rep s, h2.rep s⟩
theorem src2 {α : Type} {R : RG α V} {K} {r : List V → Hp → VK → Prop} {f : D → D → Option α}
    (h : ∀ (B H : Hp) (x y : V) (d e : D) (z : α), Ex B H → Rep K H d x → Rep K H e y → f d e = some z → ∀ Q : VK, (∀ v B' H', Xt B H B' H' → R K H B' H' z v → Q v H') → r [x, y] H Q) : SRC R K r (f2 f) := by
  refine ⟨fun B H xs ds z s hr hf Q q => ?_, fun ds c fn fv z => ?_⟩
  · match ds, hf, hr with
    | [d, e], hf, hr =>
      obtain ⟨v, w, e1, h1, h2⟩ := rts2 s hr
      subst e1
      have hf' : ofO (f d e) = .ok z := hf
      cases e2 : f d e with
      | none => rw [e2] at hf'; cases hf'
      | some z' =>
        rw [e2] at hf'
        cases hf'
        exact h B H v w d e z s h1 h2 e2 Q q
  · match ds, z with
    | [d, e], z =>
      have z' : ofO (f d e) = .exc c fn fv := z
      cases e2 : f d e with
      | none => rw [e2] at z'; cases z'
      | some z2 => rw [e2] at z'; cases z'
def min2D : D → D → Option D
  | .int i, .int j => some (.int (if j < i then j else i))
  | _, _ => none
def max2D : D → D → Option D
  | .int i, .int j => some (.int (if j > i then j else i))
  | _, _ => none
theorem src_min2 {K} : SRC RP K (fun xs H Q => ∃ i j, xs = [.int i, .int j] ∧ Q (.int (if j < i then j else i)) H) (f2 min2D) :=
  src2 fun B H x y d e z s rx ry hf Q q => by
    cases d with
    | int i =>
      cases e with
      | int j =>
        cases rep_int rx
        cases rep_int ry
        cases hf
        exact ⟨i, j, rfl, q _ B H (Xt.refl s) rfl⟩
      | _ => cases hf
    | _ => cases hf
theorem src_max2 {K} : SRC RP K (fun xs H Q => ∃ i j, xs = [.int i, .int j] ∧ Q (.int (if j > i then j else i)) H) (f2 max2D) :=
  src2 fun B H x y d e z s rx ry hf Q q => by
    cases d with
    | int i =>
      cases e with
      | int j =>
        cases rep_int rx
        cases rep_int ry
        cases hf
        exact ⟨i, j, rfl, q _ B H (Xt.refl s) rfl⟩
      | _ => cases hf
    | _ => cases hf
def blsD : List D → Option (List Bool)
  | [] => some []
  | .bl x :: ds => (blsD ds).map (x :: ·)
  | _ => none
theorem bls_reps {K H} : ∀ {ds : List D} {vs : List V} {xs : List Bool}, Reps K H ds vs → blsD ds = some xs → vs = xs.map V.bl
  | [], vs, xs, r, h => by cases h; simp only [Reps] at r; exact r
  | .bl x :: ds, vs, xs, r, h => by
    simp only [Reps] at r
    obtain ⟨v, q, e, h1, h2⟩ := r
    subst e
    have hv := rep_bl h1
    subst hv
    have h' : (blsD ds).map (x :: ·) = some xs := h
    cases e2 : blsD ds with
    | none => rw [e2] at h'; cases h'
    | some ys =>
      rw [e2] at h'
      cases h'
      rw [bls_reps h2 e2]
      rfl
  | .non :: _, _, _, _, h => by cases h
  | .str _ :: _, _, _, _, h => by cases h
  | .int _ :: _, _, _, _, h => by cases h
  | .tup _ :: _, _, _, _, h => by cases h
  | .lst _ :: _, _, _, _, h => by cases h
  | .scr _ :: _, _, _, _, h => by cases h
  | .obj _ _ _ :: _, _, _, _, h => by cases h
  | .dct _ _ :: _, _, _, _, h => by cases h
  | .dtt _ _ :: _, _, _, _, h => by cases h
  | .err _ _ _ :: _, _, _, _, h => by cases h
def allD : D → Res D
  | .lst xs => (match blsD xs with
    | some bs => .ok (.bl (bs.all id))
    | none => .stuck)
  | _ => .stuck
def anyD : D → Res D
  | .lst xs => (match blsD xs with
    | some bs => .ok (.bl (bs.any id))
    | none => .stuck)
  | _ => .stuck
theorem src_all {K} : SRC RP K (rAll K) (f1 allD) := by
  refine src1 (fun B H x d z s rx hf Q q => ?_) fun d c fn fv z => by cases d <;> first | (cases z; done) | (unfold allD at z; dsimp only at z; split at z <;> cases z)
  cases d with
  | lst xs =>
    obtain ⟨a, vs, e1, h1, r1⟩ := rx.list s
    subst e1
    unfold allD at hf
    dsimp only at hf
    cases e2 : blsD xs with
    | none => rw [e2] at hf; cases hf
    | some bs =>
      rw [e2] at hf
      cases hf
      have e3 := bls_reps r1 e2
      subst e3
      exact ⟨a, bs, rfl, SqL.of h1, q _ B H (Xt.refl s) rfl⟩
  | _ => cases hf
theorem src_any {K} : SRC RP K (rAny K) (f1 anyD) := by
  refine src1 (fun B H x d z s rx hf Q q => ?_) fun d c fn fv z => by cases d <;> first | (cases z; done) | (unfold anyD at z; dsimp only at z; split at z <;> cases z)
  cases d with
  | lst xs =>
    obtain ⟨a, vs, e1, h1, r1⟩ := rx.list s
    subst e1
    unfold anyD at hf
    dsimp only at hf
    cases e2 : blsD xs with
    | none => rw [e2] at hf; cases hf
    | some bs =>
      rw [e2] at hf
      cases hf
      have e3 := bls_reps r1 e2
      subst e3
      exact ⟨a, bs, rfl, SqL.of h1, q _ B H (Xt.refl s) rfl⟩
  | _ => cases hf

/-! ### list(range(..)), tuple(range(..)) -/
def rgOk (a b : Int) : Bool := decide (-(2 ^ 62) ≤ a ∧ a < 2 ^ 62 ∧ -(2 ^ 62) ≤ b ∧ b < 2 ^ 62 ∧ (b - a).toNat ≤ 2 ^ 24)
theorem reps_rng {K B} (a b : Int) : Reps K B (rng a b) (rgV a b) := by
  unfold rng rgV
  generalize List.range (b - a).toNat = l
  induction l with
  | nil => simp [Reps]
  | cons i l ih =>
    simp only [List.map_cons, Reps]
    exact ⟨_, _, rfl, rfl, ih⟩
def rgL : D → D → Option (List D)
  | .int a, .int b => if rgOk a b then some (rng a b) else none
  | _, _ => none
def mListRg1 (m : En → Res D) : En → Res (List D) := mB m fun d _ => ofO (rgL (.int 0) d)
def mListRg2 (ma mb : En → Res D) : En → Res (List D) := mB ma fun a => mB mb fun b _ => ofO (rgL a b)
section
variable {X : Cx} {W : WX} {a b : Expr} {m ma mb : En → Res D} {p p2 pos pos2 : Pos}
theorem se_listRg1 (hc : X.calm = true) (hl : X.mg "list" = none) (hr : X.mg "range" = none) (h : SE X W RT a m) (hgl : Gl X "list" := by rfl) (hgr : Gl X "range" := by rfl) (na : starEach [a] X.env = (false, eval a X.env) :: starEach [] X.env := by rfl)
    (nr : starEach [.Call (.Name "range" p2) [a] [] pos2] X.env = (false, eval (.Call (.Name "range" p2) [a] [] pos2) X.env) :: starEach [] X.env := by rfl) :
    SE X W RF (.Call (.Name "list" p) [.Call (.Name "range" p2) [a] [] pos2] [] pos) (mListRg1 m) := by
  obtain ⟨t, pa, s⟩ := h.ex
  refine ⟨_, pe_listRg hc hgl hl (prg_1 hgr hr pa na) nr, ?_⟩
  refine Sim.bind (R := RT) (S := RF) (u := fun v σ H1 Q => ∃ n : Int, v = .int n ∧ (RgOk 0 n ∧ ∀ q, H1 q = none → Q (.ref q) (upd H1 q (.lst (rgV 0 n))))) s fun B0 H0 env σ B H d v B1 H1 I x r => ?_
  cases d with
  | int j =>
    cases rep_int (r.rep I.xs)
    show Post _ _ _ _ _ _ (ofO (if rgOk 0 j = true then some (rng 0 j) else none)) _
    by_cases c : rgOk 0 j = true
    · rw [if_pos c]
      have c' := of_decide_eq_true (show decide (-(2 ^ 62) ≤ (0 : Int) ∧ (0 : Int) < 2 ^ 62 ∧ -(2 ^ 62) ≤ j ∧ j < 2 ^ 62 ∧ (j - 0).toNat ≤ 2 ^ 24) = true from c)
      exact fun Q q => ⟨j, rfl, c', fun l hl => q _ B1 _ (x.trans (Xt.out I.xs hl)) ⟨l, _, rfl, x.h.free hl, I.xs.free hl, upd_same, reps_rng 0 j⟩⟩
    · rw [if_neg c]
      trivial
  | _ => trivial
end
end Sm

set_option autoImplicit true
set_option Elab.async false
set_option linter.all false
set_option maxRecDepth 100000
set_option maxHeartbeats 4000000
/-! enumerate over a list or a tuple, its pairs known to bear no names of their own. -/
namespace Sm
open PySem PySem.Spec PyProof.Rows L2

theorem draws_tuple {prog : Program} {w : World} {A : Around} (hh : A.handled = none) (it l : Addr) (hne : l ≠ it) (items : Array Value) :
    Draws prog w A it [it, l] items.size (fun i v => items[i]? = some v) (fun i h => h.IsTupleIter it l i ∧ h.IsTuple l items) where
  live := fun _ _ st => let ⟨o, ho, _⟩ := st.1; ⟨o, ho⟩
  frame := fun _ _ _ st hk => ⟨st.1.at fun o e => hk it (by simp) o e, let ⟨o, ho, r⟩ := st.2; ⟨o, hk l (by simp) o ho, r⟩⟩
  item := fun i s Q E hi st hQ => by
    refine RZ.nextOf_tuple_item st.1 st.2 (x := items[i]) (by simp [hi]) fun h' hit' hs' => ?_
    exact hQ _ h' s.toks (by simp [hi]) ⟨hit', st.2.extBut hs'.extBut hne⟩ hs'
  done := fun s Q E st hE => RZ.nextOf_tuple_end hh st.1 st.2 (by simp) hE

theorem meets_enumerate_newT (l : Addr) (items : Array Value) (n : Nat) (dct : Option Addr) (sl : Array (Option Value)) :
    Meets (Builtin.«enumerate.__new__» ⟨[.type "enumerate", .ref l], []⟩) (fun _ R s => s.heap.get? l = some { cls := .type "tuple", dict := dct, data := .seq items n, slots := sl } ∧
      R (.ok (.ret (.ref (s.heap.push { cls := .type "tuple_iterator", data := .fields #[.ref l, .int 0 0] }).objs.size)))
        { s with heap := (s.heap.push { cls := .type "tuple_iterator", data := .fields #[.ref l, .int 0 0] }).push { cls := .type "enumerate", data := .fields #[.none, .bool false, .ref s.heap.objs.size, rawInt 0, .none, .none] } }) :=
  .of_wp fun prog w A R s h => by
    obtain ⟨hp, g, d, tk, os⟩ := s; obtain ⟨hl, h⟩ := h
    have hsub := sub_enumerate
    have hL : Heap.IsTuple (Shared.heap ⟨hp, g, d, tk, os⟩) l items := ⟨_, hl, rfl, n, rfl⟩
    wp_walk using PySem.AutoSeq1.wpAny_loadPart' hl
    refine wpAny_stack_any fun st => wpAny_pure ?_
    split
    · rename_i c _ _ _ _ _
      cases (c == Value.type "enumerate")
      · wp_walk using PySem.AutoSeq1.wpAny_loadPart' hl, wpAny_pyIter_tuple hL
        exact ⟨_, rfl, h⟩
      · wp_walk using PySem.AutoSeq1.wpAny_loadPart' hl, wpAny_pyIter_tuple hL
        exact ⟨_, rfl, h⟩
    · wp_walk using PySem.AutoSeq1.wpAny_loadPart' hl, wpAny_pyIter_tuple hL
      exact ⟨_, rfl, h⟩
section
variable {prog : Program} {w : World} {A : Around} {E : Value → Shared → Prop} {s : Shared}
theorem call_enumerate_tuple {l : Addr} {items : Array Value} {Q : Value → Shared → Prop} (hL : s.heap.IsTuple l items)
    (h : ∀ h', IsEnum h' (s.heap.objs.size + 1) s.heap.objs.size 0 .none → h'.IsTupleIter s.heap.objs.size l 0 → h'.objs.size = s.heap.objs.size + 2 →
      (∀ b o, s.heap.get? b = some o → h'.get? b = some o) → Q (.ref (s.heap.objs.size + 1)) { s with heap := h' }) :
    wpAny (model prog w) A (call (.type "enumerate") [.ref l]) Q E s := by
  obtain ⟨⟨c, dct, dt, sl⟩, hl, hc, n, hd⟩ := hL
  replace hc : c = .type "tuple" := hc
  replace hd : dt = .seq items n := hd
  subst hc hd
  refine callType_new PySem.F.called_enumerate (by decide) (PySem.F.typeCall_enumerate_1 _) (PySem.F.newCall_enumerate_1 _) (fun obj => PySem.F.args_object_init_2 obj _) PySem.F.entry_enumerate_new
    (meets_enumerate_newT l items n dct sl) ⟨hl, ?_⟩
  have hz : (s.heap.push { cls := .type "tuple_iterator", data := .fields #[.ref l, .int 0 0] }).objs.size = s.heap.objs.size + 1 := Heap.size_push ..
  show _ ∧ _
  rw [hz]
  have he : IsEnum ((s.heap.push { cls := .type "tuple_iterator", data := .fields #[.ref l, .int 0 0] }).push
      { cls := .type "enumerate", data := .fields #[.none, .bool false, .ref s.heap.objs.size, rawInt 0, .none, .none] }) (s.heap.objs.size + 1) s.heap.objs.size 0 .none := by
    have := Heap.get?_push_size (s.heap.push { cls := .type "tuple_iterator", data := .fields #[.ref l, .int 0 0] })
      (o := { cls := .type "enumerate", data := .fields #[.none, .bool false, .ref s.heap.objs.size, rawInt 0, .none, .none] }) rfl
    rw [hz] at this; exact this
  refine ⟨⟨_, he, rfl⟩, h _ he ⟨_, Heap.get?_push_of_some _ (Heap.get?_push_size _ rfl), rfl, rfl⟩ (by rw [Heap.size_push, hz]) fun b o x => Heap.get?_push_of_some _ (Heap.get?_push_of_some _ x)⟩
end
/-- the sequence at a as it stands at each turn, each item in a new pair -/
def IteZ (Sq : Hp → List V → Prop) : It :=
  ⟨fun i H => ∃ (xs : List V) (x : V), Sq H xs ∧ xs[i]? = some x, fun i H v H' => ∃ T x o, v = .ref T ∧ H T = none ∧ o.dict = none ∧ H' = upd H T (.frz o (.tup [.int (i : Nat), x])) ∧ ∀ xs, Sq H xs → xs[i]? = some x, fun i H => ∃ xs : List V, Sq H xs ∧ xs.length ≤ i⟩
theorem enum_endN {prog : Program} {w : World} {A : Around} {E : Value → Shared → Prop} {s : Shared} {e it : Addr} {i : Int} {old : Value} {Q : Option Value → Shared → Prop}
    (hN : ∀ (Q : Value → Shared → Prop) (E : Value → Shared → Prop), (∀ h' x, Heap.ExtBut it s.heap h' → (∃ o, h'.get? x = some o ∧ o.cls = .type "StopIteration") → E (.ref x) { s with heap := h' }) → wpAny (model prog w) A.in1 (Builtin.SmallTypes.nextOf (.ref it)) Q E s)
    (he : IsEnum s.heap e it i old) (hQ : ∀ h', Heap.ExtBut it s.heap h' → Q none { s with heap := h' }) : wpAny (model prog w) A (pyNext (.ref e)) Q E s := by
  have hT : s.TypeIs (.ref e) "enumerate" := ⟨_, he, rfl⟩
  unfold pyNext
  refine wpAny_bind (wpAny_attempt (wpAny_callSpecial?_slot (name := Str.ofString "__next__") hT PySem.F.slot_enumerate_next
    (wpAny_call_entry PySem.F.slot_enumerate_next hT PySem.F.entry_enumerate_next ?_ (PySem.F.args_enumerate_next_1 _))))
  show wpAny _ _ (field (.ref e) 2 >>= _) _ _ _
  refine wpAny_bind (wpAny_field he rfl (x := .ref it) rfl ?_)
  refine wpAny_bind (hN _ _ fun h' x he' hx' => ?_)
  obtain ⟨o, ho, hc⟩ := hx'
  refine wpAny_bind (wpAny_isInstance (T := "StopIteration") (b := true) ⟨o, ho, hc⟩ isSubtype_stop ?_)
  exact wpAny_pure (hQ _ he')
theorem turn_enumZ {P : Program} {w : World} {K : PySem.W.Frag} {elts : List Expr} {kk : Nat} {tpos : Pos} (Sq : Hp → List V → Prop) (e it : Addr) {tn : Nat → Heap → Prop}
    (hat : ∀ i h, tn i h → ∃ o, h.get? it = some o ∧ ∀ v, o.data ≠ .cell v) (hkeep : ∀ i h h', tn i h → (∀ o, h.get? it = some o → h'.get? it = some o) → tn i h')
    (hD : ∀ (X : Cx), X.prog = P → X.w = w → X.K = K → X.calm = true → ∀ (pins : List (Addr × Obj)) (s : Shared) (σ : L2.St) (H : Hp), Inv X pins σ H s → ∀ i, tn i s.heap → ∀ xs, Sq H xs → ∃ (its : List Value) (fp : List Addr) (S : Nat → Heap → Prop), Vals xs its ∧ (e ≠ it → (∀ o, s.heap.get? e = some o → ∃ c, o.data = .fields c) → e ∉ fp) ∧
      Draws P w X.A.in1 it fp its.toArray.size (fun i v => its.toArray[i]? = some v) S ∧ S i s.heap ∧ ∀ j h, S j h → tn j h)
    (hN : ∀ (X : Cx), X.prog = P → X.w = w → X.K = K → X.calm = true → ∀ (pins : List (Addr × Obj)) (s : Shared) (σ : L2.St) (H : Hp), Inv X pins σ H s → ∀ i, tn i s.heap → ∀ xs, Sq H xs → xs.length ≤ i →
      ∀ (Q : Value → Shared → Prop) (E : Value → Shared → Prop), (∀ h' x, Heap.ExtBut it s.heap h' → (∃ o, h'.get? x = some o ∧ o.cls = .type "StopIteration") → E (.ref x) { s with heap := h' }) → wpAny (model P w) X.A.in1 (Builtin.SmallTypes.nextOf (.ref it)) Q E s)
    (inj : ∀ (X : Cx), X.prog = P → X.w = w → X.K = K → ∀ (pins : List (Addr × Obj)) (s : Shared) (σ : L2.St) (H : Hp), Inv X pins σ H s → ∀ xs ys, Sq H xs → Sq H ys → xs = ys) :
    Turn P w K (.Tuple elts kk tpos) (IteZ Sq) [e, it] e (fun i h => (∃ old, IsEnum h e it ((i : Nat) : Int) old) ∧ tn i h ∧ e ≠ it) where
  mem := by simp
  obj := fun i h st b hb => by
    obtain ⟨⟨old, he⟩, hi, _⟩ := st
    have e' : b = e ∨ b = it := by simpa using hb
    rcases e' with z | z
    · rw [z]; exact ⟨_, he, fun v q => nomatch q⟩
    · rw [z]; exact hat i h hi
  keep := fun i h h' st k => let ⟨⟨old, he⟩, hi, hne⟩ := st; ⟨⟨old, k e (by simp) _ he⟩, hkeep i h h' hi fun o q => k it (by simp) o q, hne⟩
  item := by
    intro X hP hw hK hc i pins s σ H E I hf st hg
    obtain ⟨⟨old, he⟩, hit, hne⟩ := st
    obtain ⟨xs, x, hq, hx⟩ := hg
    obtain ⟨its, fp, S, rv, hef, D, hS, hStn⟩ := hD X hP hw hK hc pins s σ H I i hit xs hq
    have inj' := inj X hP hw hK pins s σ H I
    subst hP hw hK
    obtain ⟨u, hu, ru⟩ := rv.get hx
    have hil0 := hat i _ hit
    have hel : e < s.heap.objs.size := Heap.lt_size he
    have hil : it < s.heap.objs.size := by obtain ⟨_, q, _⟩ := hil0; exact Heap.lt_size q
    have hlt : i < its.toArray.size := by
      have := (List.getElem?_eq_some_iff.mp hu).1
      simpa using this
    refine wpAny_pyNext_enum_itemD D he hS hlt hne (hef hne fun o ho => by rw [he] at ho; cases ho; exact ⟨_, rfl⟩) fun u' h' tk hPx ho hS' hT hsz hk => ?_
    have eu : u' = u := by
      have q : its.toArray[i]? = some u := by simpa using hu
      rw [q] at hPx
      cases hPx
      rfl
    subst eu
    have hit' := hStn _ _ hS'
    refine ⟨_, rfl, wpAny_letOwnedTupleGo_enum (s := { s with heap := h', toks := tk + 1 }) ho fun h'' he' sb => ?_⟩
    have hT2 : h''.get? s.heap.objs.size = some { cls := .type "tuple", data := .seq #[.int i tk, u'] } := (sb.2 _ (Nat.ne_of_gt hel)).trans hT
    have new : ObjOk X.prog X.w (upd H s.heap.objs.size (.frz { cls := .type "tuple", data := .seq #[.int i tk, u'] } (.tup [.int (i : Nat), x]))) h'' s.heap.objs.size (.frz { cls := .type "tuple", data := .seq #[.int i tk, u'] } (.tup [.int (i : Nat), x])) :=
      ⟨hT2, by show 2 ≤ sizeLine; decide, [.int i tk, u'], .cons ⟨_, rfl⟩ (.cons ru .nil), ⟨_, hT2, rfl, _, rfl⟩⟩
    have I1 := I.turnedNew (t' := tk + 1) (ch := [e, it]) (fun b ob hb q => (sb.2 b (fun z => hb (by simp [z]))).trans (hk b ob (fun z => hb (by simp [z])) (fun z => hb (by simp [z])) q)) hf (Nat.le_refl _) new
    refine ⟨.ref s.heap.objs.size, _, I1, rfl, ⟨_, x, _, rfl, I.hok.fresh (Nat.le_refl _), rfl, rfl, fun ys hy => by rw [inj' ys xs hy hq]; exact hx⟩, ⟨⟨u', ?_⟩, hkeep _ _ _ hit' fun o q => (sb.2 it (Ne.symm hne)).trans q, hne⟩, fun b hb => ?_⟩
    · have e1 : ((i + 1 : Nat) : Int) = (i : Int) + 1 := by omega
      rw [e1]; exact he'
    · have hb' : b < s.heap.objs.size := by
        have e' : b = e ∨ b = it := by simpa using hb
        rcases e' with z | z
        · rw [z]; exact hel
        · rw [z]; exact hil
      rw [upd_ne (Nat.ne_of_lt hb')]
      exact (hf b hb).1
  done := by
    intro X hP hw hK hc i pins s σ H E I hf st hg
    obtain ⟨⟨old, he⟩, hit, hne⟩ := st
    obtain ⟨xs, hq, hx⟩ := hg
    have n := hN X hP hw hK hc pins s σ H I i hit xs hq hx
    subst hP hw hK
    obtain ⟨f0, f1, f2, f3, f4, f5⟩ := hf it (by simp)
    exact enum_endN n he fun h' eb => ⟨rfl, I.turned (t' := s.toks) (fun b o hb q => eb b o hb q) f0 f1 f3 f4 f5⟩
  self := fun A i s Q E st h => let ⟨⟨_, he⟩, _⟩ := st; wpAny_pyIter_enum he h
theorem turn_enumL {P : Program} {w : World} {K : PySem.W.Frag} {elts : List Expr} {kk : Nat} {tpos : Pos} (a e it : Addr) : Turn P w K (.Tuple elts kk tpos) (IteZ fun H xs => SqL K H a xs) [e, it] e (fun i h => (∃ old, IsEnum h e it ((i : Nat) : Int) old) ∧ h.IsListIter it a i ∧ e ≠ it) :=
  turn_enumZ (tn := fun i h => h.IsListIter it a i) _ e it (fun i h st => let ⟨o, ho, hc, hd⟩ := st; ⟨o, ho, fun v q => by rw [hd] at q; cases q⟩) (fun i h h' st k => st.at k)
    (fun X hP hw hK hc pins s σ H I i st xs hq => by
      subst hP hw hK
      obtain ⟨its, rv, p, hz⟩ := I.list hq
      have pl := p.isList
      have hne : a ≠ it := fun z => by
        subst z
        obtain ⟨o, ho, hc1, _⟩ := st
        obtain ⟨o2, ho2, hc2, _⟩ := pl
        rw [ho] at ho2
        cases ho2
        rw [hc1] at hc2
        injection hc2 with z
        exact absurd z (by decide)
      refine ⟨its, [it, a], _, rv, fun h1 h2 => ?_, Draws.list (A := X.A.in1) (I.ok.hd hc) it a hne its.toArray, ⟨st, pl⟩, fun j h S => S.1⟩
      intro z
      have e' : e = it ∨ e = a := by simpa using z
      rcases e' with z | z
      · exact h1 z
      · subst z
        obtain ⟨o2, ho2, hc2, _, hd2⟩ := pl
        obtain ⟨c, q⟩ := h2 _ ho2
        rw [hd2] at q
        cases q)
    (fun X hP hw hK hc pins s σ H I i st xs hq hx Q E hE => by
      subst hP hw hK
      obtain ⟨its, rv, p, hz⟩ := I.list hq
      have hl := rv.length
      exact wpAny_nextOf_list_end (A := X.A.in1) (I.ok.hd hc) st p.isList (by simp; omega) hE)
    (fun X hP hw hK pins s σ H I xs ys h1 h2 => by subst hK; exact I.list_inj h1 h2)
theorem turn_enumT {P : Program} {w : World} {K : PySem.W.Frag} {elts : List Expr} {kk : Nat} {tpos : Pos} (a e it : Addr) : Turn P w K (.Tuple elts kk tpos) (IteZ fun H xs => SqT K H a xs) [e, it] e (fun i h => (∃ old, IsEnum h e it ((i : Nat) : Int) old) ∧ h.IsTupleIter it a i ∧ e ≠ it) :=
  turn_enumZ (tn := fun i h => h.IsTupleIter it a i) _ e it (fun i h st => let ⟨o, ho, hc, hd⟩ := st; ⟨o, ho, fun v q => by rw [hd] at q; cases q⟩) (fun i h h' st k => st.at k)
    (fun X hP hw hK hc pins s σ H I i st xs hq => by
      subst hP hw hK
      obtain ⟨its, rv, pl, hz⟩ := I.tuple hq
      have hne : a ≠ it := fun z => by
        subst z
        obtain ⟨o, ho, hc1, _⟩ := st
        obtain ⟨o2, ho2, hc2, _⟩ := pl
        rw [ho] at ho2
        cases ho2
        rw [hc1] at hc2
        injection hc2 with z
        exact absurd z (by decide)
      refine ⟨its, [it, a], _, rv, fun h1 h2 => ?_, draws_tuple (A := X.A.in1) (I.ok.hd hc) it a hne its.toArray, ⟨st, pl⟩, fun j h S => S.1⟩
      intro z
      have e' : e = it ∨ e = a := by simpa using z
      rcases e' with z | z
      · exact h1 z
      · subst z
        obtain ⟨o2, ho2, hc2, _, hd2⟩ := pl
        obtain ⟨c, q⟩ := h2 _ ho2
        rw [hd2] at q
        cases q)
    (fun X hP hw hK hc pins s σ H I i st xs hq hx Q E hE => by
      subst hP hw hK
      obtain ⟨its, rv, p, hz⟩ := I.tuple hq
      have hl := rv.length
      exact RZ.nextOf_tuple_end (A := X.A.in1) (I.ok.hd hc) st p (by simp; omega) hE)
    (fun X hP hw hK pins s σ H I xs ys h1 h2 => by subst hK; exact I.tuple_inj h1 h2)
def iEnumZ (K : PySem.W.Frag) (ta : TA) : TI := fun σ H R => ta σ H fun vs H1 => ∃ a, vs = [.ref a] ∧ (((∃ xs, SqL K H1 a xs) ∧ R (IteZ fun H xs => SqL K H a xs) H1) ∨ ((∃ xs, SqT K H1 a xs) ∧ R (IteZ fun H xs => SqT K H a xs) H1))
theorem pi_enumZ {X : Cx} {e : Expr} {ta : TA} {p pos tpos : Pos} {elts : List Expr} {kk : Nat} (hg : Gl X "enumerate") (hm : X.mg "enumerate" = none) (ha : PA X [e] ta) (hs : starEach [e] X.env = [(false, eval e X.env)] := by rfl) :
    PI X (.Tuple elts kk tpos) (.Call (.Name "enumerate" p) [e] [] pos) (iEnumZ X.K ta) := by
  refine ⟨fun pins s σ H R I h => ?_⟩
  refine Call_ (ld_blt I hg hm boot_enumerate (PyProof.Rows.callWith_type1 (thn (ha.run pos pins s σ H _ I h) fun us s1 ⟨vs, H1, I1, r1, q1⟩ => ?_) hs rfl))
  obtain ⟨a, ex, hq⟩ := q1
  subst ex
  have fp : ∀ b ∈ [s1.heap.objs.size + 1, s1.heap.objs.size], FpOk X pins H1 b := fun b hb => by
    have e' : b = s1.heap.objs.size + 1 ∨ b = s1.heap.objs.size := by simpa using hb
    have hle : s1.heap.objs.size ≤ b := by
      rcases e' with z | z
      · rw [z]; exact Nat.le_add_right _ _
      · rw [z]; exact Nat.le_refl _
    exact I1.fpOk hle (I1.hok.fresh hle)
  cases r1 with
  | cons r rr =>
    cases rr
    cases r
    rcases hq with ⟨⟨xs, hq⟩, q⟩ | ⟨⟨xs, hq⟩, q⟩
    · obtain ⟨its, rv, p', hz⟩ := I1.list hq
      refine call_enumerate_list p'.isList fun h' he hit hsz hk => wpAny_pyIter_enum he ?_
      have I2 : Inv X pins σ H1 { s1 with heap := h' } := I1.kept (t' := s1.toks) hk
      exact ⟨s1.heap.objs.size + 1, [s1.heap.objs.size + 1, s1.heap.objs.size], _, _, H1, rfl, I2, turn_enumL a (s1.heap.objs.size + 1) s1.heap.objs.size, ⟨⟨.none, he⟩, hit, Nat.succ_ne_self _⟩, fp, q⟩
    · obtain ⟨its, rv, p', hz⟩ := I1.tuple hq
      refine call_enumerate_tuple p' fun h' he hit hsz hk => wpAny_pyIter_enum he ?_
      have I2 : Inv X pins σ H1 { s1 with heap := h' } := I1.kept (t' := s1.toks) hk
      exact ⟨s1.heap.objs.size + 1, [s1.heap.objs.size + 1, s1.heap.objs.size], _, _, H1, rfl, I2, turn_enumT a (s1.heap.objs.size + 1) s1.heap.objs.size, ⟨⟨.none, he⟩, hit, Nat.succ_ne_self _⟩, fp, q⟩
end Sm

set_option autoImplicit true
set_option Elab.async false
set_option linter.all false
set_option maxRecDepth 100000
set_option maxHeartbeats 4000000
namespace Sm
open PySem PySem.Spec PyProof.Rows L2
def pairsD : Nat → List D → List D
  | _, [] => []
  | i, d :: ds => .tup [.int (i : Nat), d] :: pairsD (i + 1) ds
theorem pairsD_len : ∀ (i : Nat) (ds : List D), (pairsD i ds).length = ds.length
  | _, [] => rfl
  | i, d :: ds => by
    show (pairsD (i + 1) ds).length + 1 = ds.length + 1
    rw [pairsD_len (i + 1) ds]
theorem pairsD_at : ∀ (j i : Nat) (ds : List D), (pairsD i ds)[j]? = ds[j]?.map fun d => .tup [.int ((i + j : Nat) : Int), d]
  | j, i, [] => by simp [pairsD]
  | 0, i, d :: ds => rfl
  | j + 1, i, d :: ds => by
    show (pairsD (i + 1) ds)[j]? = ds[j]?.map _
    rw [pairsD_at j (i + 1) ds]
    have e : i + 1 + j = i + (j + 1) := by omega
    rw [e]
def seqsD : D → Res (List D)
  | .lst xs => .ok xs
  | .tup xs => .ok xs
  | .scr ns => .ok (ns.map .int)
  | _ => .stuck
def mEnumerateI (m : En → Res D) (f : D → En → Option En) : En → Res (List (En → Option En)) := mB m fun d _ => (seqsD d).bind fun xs => .ok ((pairsD 0 xs).map f)
theorem walk_enum {K g f sl B1} (Sq : Hp → List V → Prop) (mono : ∀ {H H'} {xs}, Ex H H' → Sq H xs → Sq H' xs) (ok : TgOk K g f sl) {xs : List D} {vs : List V} (hs : Sq B1 vs) (hr : Reps K B1 xs vs) : Walk K B1 (IteZ Sq) g sl ((pairsD 0 xs).map f) := by
  refine ⟨fun i B' H' hi x1 x2 => ?_, fun B' H' x1 x2 => ?_, fun i b B0 H0 env env1 σ B' H' hb e I x1 y H2 hy Q q => ?_⟩
  · rw [List.length_map, pairsD_len] at hi
    obtain ⟨w, hw, _⟩ := hr.get (List.getElem?_eq_getElem hi)
    exact ⟨vs, w, mono x2 (mono x1 hs), hw⟩
  · exact ⟨vs, mono x2 (mono x1 hs), by rw [List.length_map, pairsD_len, hr.length]; exact Nat.le_refl _⟩
  · rw [List.getElem?_map, pairsD_at] at hb
    cases e1 : xs[i]? with
    | none => rw [e1] at hb; cases hb
    | some d =>
      rw [e1] at hb
      cases hb
      obtain ⟨w, hw, rw'⟩ := hr.get e1
      obtain ⟨T, x, o, eT, hT, ho, eH, hy⟩ := hy
      subst eT eH
      have ey := hy vs (mono I.xs (mono x1 hs))
      rw [hw] at ey
      cases ey
      have xt : Xt B' H' (upd B' T (.frz o (.tup [.int (i : Nat), w]))) (upd H' T (.frz o (.tup [.int (i : Nat), w]))) := Xt.new I.xs hT
      refine ok B0 H0 env env1 σ _ _ _ (.ref T) (I.xt xt) ?_ e Q fun σ2 B2 H3 I2 x2 d2 => q σ2 B2 H3 I2 (xt.trans x2) d2
      simp only [Rep, Reps]
      rw [Nat.zero_add]
      exact ⟨T, [.int (i : Nat), w], rfl, .inl (.inr ⟨o, upd_same⟩), .inl ⟨o, _, upd_same, ho⟩, _, _, rfl, rfl, w, [], rfl, (rw'.mono x1).mono xt.b, rfl⟩
theorem sim_enumI {K W t m g f sl} (ok : TgOk K g f sl) (h : Sim RP K W t m) : Sim (RI g sl) K W (iEnumZ K (tCons t tNil)) (mEnumerateI m f) := by
  refine Sim.bind (R := RP) (S := RI g sl) (u := fun x σ H1 R => ∃ a, [x] = [V.ref a] ∧ (((∃ xs, SqL K H1 a xs) ∧ R (IteZ fun H xs => SqL K H a xs) H1) ∨ ((∃ xs, SqT K H1 a xs) ∧ R (IteZ fun H xs => SqT K H a xs) H1))) h fun B0 H0 env σ B H d v B1 H1 I x r => ?_
  cases d with
  | lst xs =>
    obtain ⟨a, vs, e1, h1, h2⟩ := rep_lst r
    subst e1
    exact fun Q q => ⟨a, rfl, .inl ⟨⟨vs, I.xs.l (SqL.of h1)⟩, q _ B1 H1 x (walk_enum (fun H xs => SqL K H a xs) (fun e h => e.l h) ok (SqL.of h1) h2)⟩⟩
  | scr ns =>
    have r' : Rep K B1 (.scr ns) v := r
    simp only [Rep] at r'
    obtain ⟨a, e1, h1⟩ := r'
    subst e1
    exact fun Q q => ⟨a, rfl, .inl ⟨⟨_, I.xs.l h1⟩, q _ B1 H1 x (walk_enum (fun H xs => SqL K H a xs) (fun e h => e.l h) ok h1 (reps_ints ns))⟩⟩
  | tup xs =>
    obtain ⟨a, vs, e1, h1, _, h2⟩ := rep_tup r
    subst e1
    exact fun Q q => ⟨a, rfl, .inr ⟨⟨vs, I.xs.t h1⟩, q _ B1 H1 x (walk_enum (fun H xs => SqT K H a xs) (fun e h => e.t h) ok h1 h2)⟩⟩
  | _ => trivial
section
variable {X : Cx} {W : WX} {elts : List Expr} {kk : Nat} {tpos : Pos} {iter : Expr} {p pos : Pos} {m : En → Res D} {f : D → En → Option En} {sl : List Nat}
theorem ic_enumerate (hm : X.mg "enumerate" = none) (h : SE X W RP iter m) (hg : Gl X "enumerate" := by rfl) (hs : starEach [iter] X.env = [(false, eval iter X.env)] := by rfl) :
    SIc X W (.Tuple elts kk tpos) (.Call (.Name "enumerate" p) [iter] [] pos) f (mEnumerateI m f) := by
  obtain ⟨t, pa, s⟩ := h.ex
  exact ⟨_, pi_enumZ hg hm (pa_cons pa pa_nil hs) hs, fun g sl ok => sim_enumI ok s⟩
theorem si_enumerate (hm : X.mg "enumerate" = none) (h : SE X W RP iter m) (k : STg X (.Tuple elts kk tpos) f sl) (hg : Gl X "enumerate" := by rfl) (hs : starEach [iter] X.env = [(false, eval iter X.env)] := by rfl) :
    SIt X W (.Tuple elts kk tpos) (.Call (.Name "enumerate" p) [iter] [] pos) (mEnumerateI m f) := (ic_enumerate hm h hg hs).it k
end
end Sm

set_option autoImplicit true
set_option Elab.async false
set_option linter.all false
set_option maxRecDepth 100000
set_option maxHeartbeats 4000000
/-! Instances: fields. -/
namespace Sm
open PySem PySem.Spec PyProof.Rows L2

/-- the name f is a field of each of these classes -/
def FldOk (K : PySem.W.Frag) (cs : List Str) (f : Str) : Prop := ∀ c ∈ cs, Cls K (He.ga K c) ∧ NoAttr K (He.ga K c) f
theorem FldOk.nil {K f} : FldOk K [] f := fun c h => by cases h
theorem FldOk.cons {K : PySem.W.Frag} {x f : Str} {cs : List Str} (h1 : (He.Fa.cls x).ok K = true) (h2 : (He.Fa.noat x f).ok K = true) (h : FldOk K cs f) : FldOk K (x :: cs) f := fun c hc => by
  rcases List.mem_cons.mp hc with e | e
  · subst e
    exact ⟨He.cls_ok h1, He.noat_ok h2⟩
  · exact h c e
def lookD (f : Str) : List Str → List D → Option D
  | g :: gs, d :: ds => if f = g then some d else lookD f gs ds
  | _, _ => none
theorem lookD_rep {K B f} : ∀ {fn : List Str} {fv : List D} {vs : List V} {d : D}, fn.length = vs.length → Reps K B fv vs → lookD f fn fv = some d → ∃ v, (fn.zip vs).lookup f = some v ∧ Rep K B d v
  | [], fv, vs, d, hl, r, h => by cases fv <;> cases h
  | g :: gs, [], vs, d, hl, r, h => by cases h
  | g :: gs, e :: es, vs, d, hl, r, h => by
    simp only [Reps] at r
    obtain ⟨v, q, ev, h1, h2⟩ := r
    subst ev
    have h' : (if f = g then some e else lookD f gs es) = some d := h
    rw [List.zip_cons_cons, List.lookup_cons]
    by_cases c : f = g
    · rw [if_pos c] at h'
      cases h'
      subst c
      exact ⟨v, by rw [beq_self_eq_true], h1⟩
    · rw [if_neg c] at h'
      have hl' : gs.length = q.length := by simpa using hl
      obtain ⟨w, hw, rw'⟩ := lookD_rep hl' h2 h'
      exact ⟨w, by rw [beq_eq_false_iff_ne.mpr c]; exact hw, rw'⟩
def fldD (cs : List Str) (f : Str) (d : D) : Option D := match d with
  | .obj c fn fv => if cs.contains c then lookD f fn fv else none
  | _ => none
section
variable {X : Cx} {W : WX} {e : Expr} {m : En → Res D} {pos : Pos}
theorem se_fld {f : Str} {cs : List Str} (ok : FldOk X.K cs f) (h : SE X W RP e m) (hb : attributeBase e f X.env (eval e X.env) = eval e X.env := by rfl) : SE X W RP (.Attribute e f pos) (mUn (fldD cs f) m) := by
  obtain ⟨t, p, s⟩ := h.ex
  refine ⟨_, pe_fld p hb, ?_⟩
  refine Sim.bind (R := RP) (S := RP) (u := fun x σ H1 Q => ∃ a C dx fs v, x = .ref a ∧ H1 a = some (.ins C dx fs) ∧ Cls X.K C ∧ NoAttr X.K C f ∧ fs.lookup f = some v ∧ Q v H1) s fun B0 H0 env σ B H d v B1 H1 I x r => ?_
  cases d with
  | obj c fn fv =>
    show Post _ _ _ _ _ _ (ofO (if cs.contains c = true then lookD f fn fv else none)) _
    by_cases hc : cs.contains c = true
    · rw [if_pos hc]
      cases e1 : lookD f fn fv with
      | none => trivial
      | some d =>
        have r' : Rep X.K B1 (.obj c fn fv) v := r
        simp only [Rep] at r'
        obtain ⟨a, dx, vs, ev, h1, h2, h3⟩ := r'
        obtain ⟨w, hw, rw'⟩ := lookD_rep h2 h3 e1
        obtain ⟨k1, k2⟩ := ok c (by simpa using hc)
        exact fun Q q => ⟨a, _, dx, _, w, ev, I.xs _ _ h1, k1, k2, hw, q w B1 H1 x rw'⟩
    · rw [if_neg hc]
      trivial
  | _ => trivial
end
/-- a field of an instance of one's own -/
def mFldOw (i : Nat) (cs : List Str) (f : Str) : En → Res D := fun env => match env[i]? with
  | some (.ow (.ins c fn fv)) => if cs.contains c then ofO (lookD f fn fv) else .stuck
  | some (.sh d) => ofO (fldD cs f d)
  | _ => .stuck
section
variable {X : Cx} {W : WX} {x : Str} {np pos : Pos}
theorem se_fldOw {f : Str} {cs : List Str} (i : Nat) (ok : FldOk X.K cs f) (hN : X.N[i]? = some x := by rfl) (hv : Vis X.env.scope x := by first | exact Or.inl rfl | exact Or.inr (Or.inl rfl) | exact Or.inr (Or.inr rfl)) (hd : (x == ("__debug__" : Str)) = false := by decide)
    (hcd : (x == ("__classdict__" : Str)) = false := by decide) (hb : attributeBase (.Name x np) f X.env (eval (.Name x np) X.env) = eval (.Name x np) X.env := by rfl) : SE X W RP (.Attribute (.Name x np) f pos) (mFldOw i cs f) := by
  refine ⟨_, pe_fld (pe_var hN hv hd hcd) hb, ?_⟩
  intro B0 H0 env σ B H I
  unfold mFldOw
  cases e : env[i]? with
  | none => trivial
  | some c =>
    cases c with
    | un => trivial
    | sh d =>
      show Post _ _ _ _ _ _ (ofO (fldD cs f d)) _
      cases d with
      | obj c fn fv =>
        show Post _ _ _ _ _ _ (ofO (if cs.contains c = true then lookD f fn fv else none)) _
        by_cases hc : cs.contains c = true
        · rw [if_pos hc]
          cases e1 : lookD f fn fv with
          | none => trivial
          | some d =>
            obtain ⟨v, hs, r'⟩ := I.sh i _ e
            simp only [Rep] at r'
            obtain ⟨a, dx, vs, ev, h1, h2, h3⟩ := r'
            obtain ⟨w, hw, rw'⟩ := lookD_rep h2 h3 e1
            obtain ⟨k1, k2⟩ := ok c (by simpa using hc)
            exact fun Q q => ⟨v, hs, a, _, dx, _, w, ev, I.xs _ _ h1, k1, k2, hw, q w B H (Xt.refl I.xs) rw'⟩
        · rw [if_neg hc]
          trivial
      | _ => trivial
    | ow o =>
      cases o with
      | lst _ => trivial
      | dct _ _ => trivial
      | dtt _ _ => trivial
      | ins c fn fv =>
        show Post _ _ _ _ _ _ (if cs.contains c = true then ofO (lookD f fn fv) else .stuck) _
        by_cases hc : cs.contains c = true
        · rw [if_pos hc]
          cases e1 : lookD f fn fv with
          | none => trivial
          | some d =>
            obtain ⟨p, ho, hs, h0, hb', hh, dx, vs, eo, h2, h3⟩ := I.ow i _ e
            subst eo
            obtain ⟨w, hw, rw'⟩ := lookD_rep h2 h3 e1
            obtain ⟨k1, k2⟩ := ok c (by simpa using hc)
            exact fun Q q => ⟨.ref p, hs, p, _, dx, _, w, rfl, hh, k1, k2, hw, q w B H (Xt.refl I.xs) rw'⟩
        · rw [if_neg hc]
          trivial
end
/-! ### x.f = e, x an instance of one's own -/
def putN (f : Str) : List Str → List Str
  | [] => [f]
  | g :: r => if g = f then g :: r else g :: putN f r
def putD (f : Str) (d : D) : List Str → List D → List D
  | [], _ => [d]
  | g :: r, x :: xs => if g = f then d :: xs else x :: putD f d r xs
  | _ :: _, [] => []
theorem put_rep {K B f d v} (rd : Rep K B d v) : ∀ {fn : List Str} {fv : List D} {vs : List V}, fn.length = vs.length → Reps K B fv vs → ∃ ws, putF f v (fn.zip vs) = (putN f fn).zip ws ∧ (putN f fn).length = ws.length ∧ Reps K B (putD f d fn fv) ws
  | [], fv, vs, hl, r => by
    have ev : vs = [] := by simpa using hl.symm
    subst ev
    refine ⟨[v], rfl, rfl, ?_⟩
    cases fv with
    | nil => exact reps_one rd
    | cons e es => simp only [Reps] at r; obtain ⟨w, q, ew, _⟩ := r; cases ew
  | g :: r, [], vs, hl, rr => by
    simp only [Reps] at rr
    subst rr
    cases hl
  | g :: gs, e :: es, vs, hl, r => by
    simp only [Reps] at r
    obtain ⟨w, q, ev, h1, h2⟩ := r
    subst ev
    have hl' : gs.length = q.length := by simpa using hl
    rw [List.zip_cons_cons]
    by_cases c : g = f
    · refine ⟨v :: q, ?_, ?_, ?_⟩
      · show (if g = f then (g, v) :: gs.zip q else _) = (if g = f then g :: gs else _).zip _
        rw [if_pos c, if_pos c]
        rfl
      · show (if g = f then g :: gs else _).length = _
        rw [if_pos c]
        simpa using hl'
      · show Reps K B (if g = f then d :: es else _) _
        rw [if_pos c]
        simp only [Reps]
        exact ⟨v, q, rfl, rd, h2⟩
    · obtain ⟨ws, e1, e2, e3⟩ := put_rep rd (f := f) hl' h2
      refine ⟨w :: ws, ?_, ?_, ?_⟩
      · show (if g = f then _ else (g, w) :: putF f v (gs.zip q)) = (if g = f then _ else g :: putN f gs).zip _
        rw [if_neg c, if_neg c, e1]
        rfl
      · show (if g = f then _ else g :: putN f gs).length = _
        rw [if_neg c]
        simpa using e2
      · show Reps K B (if g = f then _ else e :: putD f d gs es) _
        rw [if_neg c]
        simp only [Reps]
        exact ⟨w, ws, rfl, h1, e3⟩
def mSetFld (i : Nat) (cs : List Str) (f : Str) (m : En → Res D) : En → SR := mS m fun d env => match env[i]? with
  | some (.ow (.ins c fn fv)) => if cs.contains c && Nat.blt fn.length 1000 then .nx (env.set i (.ow (.ins c (putN f fn) (putD f d fn fv)))) else .stuck
  | _ => .stuck
section
variable {X : Cx} {W : WX} {x : Str} {np pos pos' : Pos} {e : Expr} {me : En → Res D}
theorem ss_fld {f : Str} {cs : List Str} (i : Nat) (ok : FldOk X.K cs f) (he : SE X W RP e me) (hN : X.N[i]? = some x := by rfl) (hv : Vis X.env.scope x := by first | exact Or.inl rfl | exact Or.inr (Or.inl rfl) | exact Or.inr (Or.inr rfl)) (hd : (x == ("__debug__" : Str)) = false := by decide)
    (hcd : (x == ("__classdict__" : Str)) = false := by decide) (hs : swapsWith e (some (.Attribute (.Name x np) f pos')) pos.line X.env = pure false := by rfl) : SS X W (.Assign [.Attribute (.Name x np) f pos'] e pos) (mSetFld i cs f me) := by
  obtain ⟨t, p, s⟩ := he.ex
  refine ⟨_, ps_fld (pe_var hN hv hd hcd) p hs, ?_⟩
  refine SimS.of (R := RP) (u := fun y D σ H1 => ∃ v, σ[i]? = some (some v) ∧ ∃ a C dx fs, v = .ref a ∧ H1 a = some (.ins C dx fs) ∧ Cls X.K C ∧ NoAttr X.K C f ∧ fs.length < 1000 ∧ D.nx σ (upd H1 a (.ins C dx (putF f y fs)))) s fun B0 H0 env σ B H d v B1 H1 I0 y I r D => ?_
  cases e1 : env[i]? with
  | none => trivial
  | some c =>
    cases c with
    | un => trivial
    | sh d => trivial
    | ow o =>
      cases o with
      | lst _ => trivial
      | dct _ _ => trivial
      | dtt _ _ => trivial
      | ins c fn fv =>
        show PostS _ _ _ _ (if (cs.contains c && Nat.blt fn.length 1000) = true then _ else _) _ _
        by_cases hc : (cs.contains c && Nat.blt fn.length 1000) = true
        · rw [if_pos hc]
          have hc' := Bool.and_eq_true_iff.mp hc
          obtain ⟨p, ho, hs, h0, hb', hh, dx, vs, eo, h2, h3⟩ := I.ow i _ e1
          subst eo
          obtain ⟨ws, w1, w2, w3⟩ := put_rep r (f := f) h2 h3
          obtain ⟨k1, k2⟩ := ok c (by simpa using hc'.1)
          refine fun q => ⟨.ref p, hs, p, _, dx, _, rfl, hh, k1, k2, ?_, q σ B1 _ (I.mut (o' := .ins c (putN f fn) (putD f d fn fv)) e1 hs ⟨dx, ws, ?_, w2, w3⟩)⟩
          · rw [List.length_zip, ← h2, Nat.min_self]
            have := hc'.2
            simpa [Nat.blt_eq] using this
          · rw [w1]
        · rw [if_neg hc]
          trivial
end
end Sm

set_option autoImplicit true
set_option Elab.async false
set_option linter.all false
set_option maxRecDepth 100000
set_option maxHeartbeats 4000000
/-! Methods, constructors: what is raised is wished for at the caller's slots. -/
namespace Sm
open PySem PySem.Spec PyProof.Rows L2
section
variable {X : Cx} {CX : CXT} {k : Nat} {f C : Addr} {fd : FuncData} {ps : List Str} {sp : Sp} {dvs : List V} {ds : List Value} {E : L2.St → XK} {m : Str} {apos pos : Pos} {o e : Expr} {es : List Expr} {ta : TE} {t : TA}
def tMethSD (C : Addr) (m : Str) (sp : Sp) (dvs : List V) (E : L2.St → XK) (ta : TE) (t : TA) : TE := fun σ H Q => ta σ H fun x H1 => ∃ a dx fs, x = .ref a ∧ H1 a = some (.ins C dx fs) ∧ fs.lookup m = none ∧ t σ H1 fun vs H2 => sp (x :: (vs ++ dvs)) H2 Q (E σ)
theorem pe_methSD {pl : Sem Bool} (he : PE X o ta) (c : Cls X.K C) (hm : Meth X.K C m f) (F : FnOk X.prog X.w X.K X.mg X.base CX k f fd ps sp) (hr : Room k X.A) (hb : Binds X.K fd ps ds) (hd : Vals dvs ds) (hx : ∀ σ, PassesAt CX X σ (E σ)) (ha : PA X (e :: es) t)
    (hst : starEach (e :: es) X.env = (false, eval e X.env) :: starEach es X.env := by rfl) (hpl : (backTo pos (starEach es X.env)).any (·.1) = false := by rfl)
    (ht : eval (.Call (.Attribute o m apos) (e :: es) [] pos) X.env = (do
      let ov ← eval o X.env
      standAt apos.atName
      let (f, first) ← holding [ov] (getMethod ov m pl)
      callWith pos f first (backTo pos (starEach (e :: es) X.env)) (backToKw pos (keywordEach [] X.env))) := by rfl) :
    PE X (.Call (.Attribute o m apos) (e :: es) [] pos) (tMethSD C m sp dvs E ta t) := by
  refine ⟨fun pins s σ H Q I h => ?_⟩
  refine PySem.W.methodCall_KW (pl := pl) (thn (he.run pins s σ H _ I h) fun u s1 ⟨x, H1, I1, rx, a, dx, fs, ex, ea, l, q⟩ => ?_) ht
  subst ex
  obtain rfl : u = Value.ref a := rx
  refine getmeth_ok I1 ea c hm l ?_
  refine PySem.W.callWith_K (first := [.ref a]) (h₀ := X.base) I.ok.mod.kin hm.kp (thn (ha.run pos pins s1 σ H1 _ I1 q) fun us s2 ⟨vs, H2, I2, r, q2⟩ => ⟨I2.kIn, ?_⟩) hst hpl
  exact run_fnSD (us := .ref a :: us) (vs := .ref a :: vs) F hr hb hd (hx σ) I2 (.cons rfl r) q2
theorem pe_meth0SD {pl : Sem Bool} (he : PE X o ta) (c : Cls X.K C) (hm : Meth X.K C m f) (F : FnOk X.prog X.w X.K X.mg X.base CX k f fd ps sp) (hr : Room k X.A) (hb : Binds X.K fd ps ds) (hd : Vals dvs ds) (hx : ∀ σ, PassesAt CX X σ (E σ))
    (ht : eval (.Call (.Attribute o m apos) [] [] pos) X.env = (do
      let ov ← eval o X.env
      standAt apos.atName
      let (f, first) ← holding [ov] (getMethod ov m pl)
      callWith pos f first (backTo pos (starEach [] X.env)) (backToKw pos (keywordEach [] X.env))) := by rfl) :
    PE X (.Call (.Attribute o m apos) [] [] pos) (tMethSD C m sp dvs E ta tNil) := by
  refine ⟨fun pins s σ H Q I h => ?_⟩
  refine PySem.W.methodCall_KW (pl := pl) (thn (he.run pins s σ H _ I h) fun u s1 ⟨x, H1, I1, rx, a, dx, fs, ex, ea, l, q⟩ => ?_) ht
  subst ex
  obtain rfl : u = Value.ref a := rx
  refine getmeth_ok I1 ea c hm l ?_
  exact PySem.W.callWith_K0 (first := [.ref a]) I1.kIn hm.kp (run_fnSD (us := [.ref a]) (vs := [.ref a]) F hr hb hd (hx σ) I1 (.cons rfl .nil) q)
end
/-! ### values in the parameters' order -/
inductive Sl where
  | p (i : Nat) | k (i : Nat) | d (i : Nat) | m (i : Nat)
def pick {α : Type} (us ds mz zs : List α) : Sl → Option α
  | .p i => us[i]?
  | .k i => zs[i]?
  | .d i => ds[i]?
  | .m i => mz[i]?
def arr (sp : List Sl) {α : Type} (us ds mz zs : List α) : List α := sp.filterMap (pick us ds mz zs)
theorem Vals.at? {vs : List V} {us : List Value} (r : Vals vs us) (i : Nat) : (∃ x u, vs[i]? = some x ∧ us[i]? = some u ∧ RelV x u) ∨ (vs[i]? = none ∧ us[i]? = none) := by
  cases e : vs[i]? with
  | some x => obtain ⟨u, h1, h2⟩ := r.get e; exact .inl ⟨x, u, rfl, h1, h2⟩
  | none =>
    refine .inr ⟨rfl, ?_⟩
    rw [List.getElem?_eq_none_iff] at e ⊢
    rw [← r.length]
    exact e
theorem vals_arr {vs ds mz zs : List V} {us its mv ws : List Value} (r1 : Vals vs us) (r2 : Vals ds its) (r3 : Vals mz mv) (r4 : Vals zs ws) : ∀ sp : List Sl, Vals (arr sp vs ds mz zs) (arr sp us its mv ws)
  | [] => .nil
  | s :: sp => by
    have ih := vals_arr r1 r2 r3 r4 sp
    have one : (∃ x u, pick vs ds mz zs s = some x ∧ pick us its mv ws s = some u ∧ RelV x u) ∨ (pick vs ds mz zs s = none ∧ pick us its mv ws s = none) := by
      cases s with
      | p i => exact Vals.at? r1 i
      | k i => exact Vals.at? r4 i
      | d i => exact Vals.at? r2 i
      | m i => exact Vals.at? r3 i
    unfold arr at ih ⊢
    rcases one with ⟨x, u, h1, h2, h3⟩ | ⟨h1, h2⟩
    · rw [List.filterMap_cons_some h1, List.filterMap_cons_some h2]
      exact .cons h3 ih
    · rw [List.filterMap_cons_none h1, List.filterMap_cons_none h2]
      exact ih
theorem Reps.at? {K H} {ds : List D} {vs : List V} (r : Reps K H ds vs) (i : Nat) : (∃ x u, ds[i]? = some x ∧ vs[i]? = some u ∧ Rep K H x u) ∨ (ds[i]? = none ∧ vs[i]? = none) := by
  cases e : ds[i]? with
  | some x => obtain ⟨u, h1, h2⟩ := r.get e; exact .inl ⟨x, u, rfl, h1, h2⟩
  | none =>
    refine .inr ⟨rfl, ?_⟩
    rw [List.getElem?_eq_none_iff] at e ⊢
    rw [← r.length]
    exact e
theorem reps_arr {K H} {a b c d : List D} {vs ds mz zs : List V} (r1 : Reps K H a vs) (r2 : Reps K H b ds) (r3 : Reps K H c mz) (r4 : Reps K H d zs) : ∀ sp : List Sl, Reps K H (arr sp a b c d) (arr sp vs ds mz zs)
  | [] => by show Reps K H [] []; simp only [Reps]
  | s :: sp => by
    have ih := reps_arr r1 r2 r3 r4 sp
    have one : (∃ x u, pick a b c d s = some x ∧ pick vs ds mz zs s = some u ∧ Rep K H x u) ∨ (pick a b c d s = none ∧ pick vs ds mz zs s = none) := by
      cases s with
      | p i => exact Reps.at? r1 i
      | k i => exact Reps.at? r4 i
      | d i => exact Reps.at? r2 i
      | m i => exact Reps.at? r3 i
    unfold arr at ih ⊢
    rcases one with ⟨x, u, h1, h2, h3⟩ | ⟨h1, h2⟩
    · rw [List.filterMap_cons_some h1, List.filterMap_cons_some h2]
      simp only [Reps]
      exact ⟨u, _, rfl, h3, ih⟩
    · rw [List.filterMap_cons_none h1, List.filterMap_cons_none h2]
      exact ih
/-- how a call binds: n values, keywords named ks, the defaults dd and md -/
structure KB (K : PySem.W.Frag) (fd : FuncData) (ps : List Str) (n : Nat) (ks : List Str) (sp : List Sl) (dd md : List D) : Prop where
  ex : ∃ (g : List Value → List Value → List Value) (dvs mvs : List V), KBn K fd ps n ks g (fun vs zs => arr sp vs dvs mvs zs) ∧ (∀ H, Reps K H dd dvs) ∧ ∀ H, Reps K H md mvs
section
variable {K : PySem.W.Frag} {x qual : Str} {params : Arguments} {body : List Stmt} {scope : Scope} {dvs : List V} {kws : List (Str × V)} {f : Addr} {fd : FuncData} {ps : List Str}
theorem repsNil {K H} : Reps K H [] [] := by simp only [Reps]
/-- no default is used -/
theorem KB.ofN (F : FunD K x qual params body scope [] kws f fd) (n : Nat) (ks : List Str) (sp : List Sl)
    (h : ∀ (kV doc pm : Value) (an : Option Addr) (cdv ct : Value) (us ws : List Value), us.length = n → ws.length = ks.length → bindArgs (PySem.W.fnOf x qual params body scope .none kV doc pm an cdv ct) ⟨us, ks.zip ws⟩ = pure (ps.zip (arr sp us [] [] ws))) : KB K fd ps n ks sp [] [] := by
  obtain ⟨oc, od, dV, kV, doc, pm, an, cdv, ct, osl, rfl, lk, hcd, hD, hK⟩ := F.ex
  rcases hD with ⟨_, rfl⟩ | ⟨e, _⟩
  · exact ⟨fun us ws => arr sp us [] [] ws, [], [], ⟨fun s us ws X l1 l2 => .of_eq (h kV doc pm an cdv ct us ws l1 l2), fun r1 r2 => vals_arr r1 .nil .nil r2 sp⟩, fun H => repsNil, fun H => repsNil⟩
  · exact absurd rfl e
/-- keyword-only defaults ms -/
theorem KB.of0 (F : FunD K x qual params body scope [] kws f fd) (n : Nat) (ks : List Str) (ms : List (Str × V)) (sp : List Sl) (md : List D) (hk : kws ≠ []) (hms : ∀ q ∈ ms, q ∈ kws) (hmd : ∀ H, Reps K H md (ms.map (·.2)))
    (h : ∀ (D : Addr) (doc pm : Value) (an : Option Addr) (cdv ct : Value) (us mv ws : List Value), us.length = n → mv.length = ms.length → ws.length = ks.length →
      KwChain D ((ms.map (·.1)).zip mv) (bindArgs (PySem.W.fnOf x qual params body scope .none (.ref D) doc pm an cdv ct) ⟨us, ks.zip ws⟩) (ps.zip (arr sp us [] mv ws))) : KB K fd ps n ks sp [] md := by
  obtain ⟨mv, hb⟩ := F.kbinds0 n ks ms (fun us mz ws => arr sp us [] mz ws) hk hms (fun r1 r2 r3 => vals_arr r1 .nil r2 r3 sp) h
  exact ⟨_, [], _, hb, fun H => repsNil, hmd⟩
/-- positional defaults -/
theorem KB.of1 (F : FunD K x qual params body scope dvs kws f fd) (n : Nat) (ks : List Str) (sp : List Sl) (dd : List D) (hd : dvs ≠ []) (hdd : ∀ H, Reps K H dd dvs)
    (h : ∀ (T : Addr) (kV doc pm : Value) (an : Option Addr) (cdv ct : Value) (us its ws : List Value), us.length = n → its.length = dvs.length → ws.length = ks.length →
      ∃ k, bindArgs (PySem.W.fnOf x qual params body scope (.ref T) kV doc pm an cdv ct) ⟨us, ks.zip ws⟩ = seqItems? (.ref T) >>= k ∧ k (some its.toArray) = pure (ps.zip (arr sp us its [] ws))) : KB K fd ps n ks sp dd [] := by
  obtain ⟨its, hb⟩ := F.kbindsD n ks (fun us ds ws => arr sp us ds [] ws) hd (fun r1 r2 r3 => vals_arr r1 r2 .nil r3 sp) h
  exact ⟨_, _, [], hb, hdd, fun H => repsNil⟩
end
/-! ### the calls -/
section
variable {X : Cx} {CX : CXT} {k n : Nat} {f C : Addr} {fd : FuncData} {ps ks : List Str} {sp : Sp} {E : XK} {x m : Str} {p pos apos : Pos} {o e : Expr} {es : List Expr} {kws : List Keyword} {to : TE} {t tk : TA} {g : List Value → List Value → List Value} {gV : List V → List V → List V}
theorem run_fnSK {pins : List (Addr × Obj)} {σ : L2.St} {H : Hp} {s : Shared} {Q : VK} {us ws : List Value} {vs zs : List V} (F : FnOk X.prog X.w X.K X.mg X.base CX k f fd ps sp) (hr : Room k X.A) (hb : KBn X.K fd ps n ks g gV) (hx : PassesAt CX X σ E)
    (I : Inv X pins σ H s) (r : Vals vs us) (rz : Vals zs ws) (l1 : vs.length = n) (l2 : zs.length = ks.length) (h : sp (gV vs zs) H Q E) : wpAny (model X.prog X.w) X.A (call (.ref f) us (ks.zip ws)) (EP X pins σ Q) X.xe s := by
  have r2 := hb.rel r rz
  refine wpAny_call (codeAny_mono (F.run X.A X.stack s H ⟨us, ks.zip ws⟩ (g us ws) (gV vs zs) Q E hr I.env0 (hb.to s us ws I.kIn (r.length.symm.trans l1) (rz.length.symm.trans l2)) r2 h) fun r s' hq => ?_)
  cases r with
  | error e => exact hx pins H s e s' I hq
  | ok fl =>
    cases fl with
    | ret u => exact I.after hq
    | next => exact False.elim hq
    | brk => exact False.elim hq
    | cont => exact False.elim hq
theorem run_makeSK {pins : List (Addr × Obj)} {σ : L2.St} {H : Hp} {s : Shared} {Q : VK} {us ws : List Value} {vs zs : List V} (M : Mk X.K C f) (F : FnOk X.prog X.w X.K X.mg X.base CX k f fd ps sp) (hr : Room (k + 1) X.A) (hb : KBn X.K fd ps (n + 1) ks g gV)
    (hx : PassesAt CX X σ E) (I : Inv X pins σ H s) (r : Vals vs us) (rz : Vals zs ws) (l1 : vs.length = n) (l2 : zs.length = ks.length)
    (h : ∀ x dx, H x = none → H dx = none → dx ≠ x → sp (gV (.ref x :: vs) zs) (upd (upd H dx (.own x)) x (.ins C dx [])) (fun v H2 => v = .non ∧ Q (.ref x) H2) E) :
    wpAny (model X.prog X.w) X.A (call (.ref C) us (ks.zip ws)) (EP X pins σ Q) X.xe s := by
  have hq := h (s.heap.objs.size + 1) s.heap.objs.size (I.hok.fresh (Nat.le_succ _)) (I.hok.fresh (Nat.le_refl _)) (Nat.ne_of_lt (Nat.lt_succ_self _))
  have I2 := Inv.made (C := C) I
  have r1 : Vals (V.ref (s.heap.objs.size + 1) :: vs) (Value.ref (s.heap.objs.size + 1) :: us) := .cons rfl r
  have r2 := hb.rel r1 rz
  have e1 : (Value.ref (s.heap.objs.size + 1) :: us).length = n + 1 := r1.length.symm.trans (congrArg Nat.succ l1)
  have e2 : ws.length = ks.length := rz.length.symm.trans l2
  refine wpAny_call (make_map (f := f) I.kIn M.makes M.init (beq_iff_eq.mp M.fn) (codeAny_mono (F.run _ X.stack _ _ ⟨Value.ref (s.heap.objs.size + 1) :: us, ks.zip ws⟩ (g (Value.ref (s.heap.objs.size + 1) :: us) ws) _ _ E (hr.make C us (ks.zip ws))
    (I2.env0.make C us (ks.zip ws)) (hb.to _ (Value.ref (s.heap.objs.size + 1) :: us) ws I2.kIn e1 e2) r2 hq) fun r s' hq' => ?_))
  cases r with
  | error e => exact hx pins _ _ e s' I2 hq'
  | ok fl =>
    cases fl with
    | ret u =>
      obtain ⟨v, H', I3, rv, ev, q3⟩ := I2.after hq'
      subst ev
      exact ⟨rv, ⟨V.ref (s.heap.objs.size + 1), H', I3, rfl, q3⟩⟩
    | next => exact False.elim hq'
    | brk => exact False.elim hq'
    | cont => exact False.elim hq'
def tCallSK (n m : Nat) (sp : Sp) (gV : List V → List V → List V) (E : L2.St → XK) (t tk : TA) : TE := fun σ H Q => t σ H fun vs H1 => tk σ H1 fun zs H2 => vs.length = n ∧ zs.length = m ∧ sp (gV vs zs) H2 Q (E σ)
def tMakeSK (C : Addr) (n m : Nat) (sp : Sp) (gV : List V → List V → List V) (E : L2.St → XK) (t tk : TA) : TE := fun σ H Q => t σ H fun vs H1 => tk σ H1 fun zs H2 => vs.length = n ∧ zs.length = m ∧
  ∀ x dx, H2 x = none → H2 dx = none → dx ≠ x → sp (gV (.ref x :: vs) zs) (upd (upd H2 dx (.own x)) x (.ins C dx [])) (fun v H3 => v = .non ∧ Q (.ref x) H3) (E σ)
def tMethSK (C : Addr) (n m : Nat) (mn : Str) (sp : Sp) (gV : List V → List V → List V) (E : L2.St → XK) (to : TE) (t tk : TA) : TE := fun σ H Q => to σ H fun x H1 => ∃ a dx fs, x = .ref a ∧ H1 a = some (.ins C dx fs) ∧ fs.lookup mn = none ∧ t σ H1 fun vs H2 => tk σ H2 fun zs H3 => vs.length = n ∧ zs.length = m ∧ sp (gV (x :: vs) zs) H3 Q (E σ)
variable {Eσ : L2.St → XK}
theorem pe_callSK (F : FnOk X.prog X.w X.K X.mg X.base CX k f fd ps sp) (hr : Room k X.A) (hg : Gl X x) (hm : X.mg x = some (.ref f)) (hk : PySem.W.keepIn X.K (.ref f) = true) (hb : KBn X.K fd ps n ks g gV) (hx : ∀ σ, PassesAt CX X σ (Eσ σ))
    (ha : PA X (e :: es) t) (hkw : PK X kws tk) (hall : (backToKw pos (keywordEach kws X.env)).all (·.1.isSome) = true := by rfl) (hks : (backToKw pos (keywordEach kws X.env)).filterMap (·.1) = ks := by rfl)
    (hdb : (x == ("__debug__" : Str)) = false := by decide) (he : starEach (e :: es) X.env = (false, eval e X.env) :: starEach es X.env := by rfl)
    (hpl : ((backTo pos (starEach (e :: es) X.env)).any (·.1) || (backToKw pos (keywordEach kws X.env)).any (·.1.isNone)) = false := by rfl) :
    PE X (.Call (.Name x p) (e :: es) kws pos) (tCallSK n ks.length sp gV Eσ t tk) := by
  refine ⟨fun pins s σ H Q I h => ?_⟩
  refine wpAny_Call_Name_kw (ld_glob I hg hm ?_ hdb)
  refine PySem.W.callWith_KW (h₀ := X.base) I.ok.mod.kin hk hall (thn (ha.run pos pins s σ H _ I h) fun us s1 ⟨vs, H1, I1, r, q⟩ => ?_) hpl he
  refine thn (hkw.run pos pins s1 σ H1 _ I1 q) fun ws s2 ⟨zs, H2, I2, rz, l1, l2, q2⟩ => ⟨I2.kIn, ?_⟩
  rw [hks]
  exact run_fnSK F hr hb (hx σ) I2 r rz l1 l2 q2
theorem pe_callSK0 (F : FnOk X.prog X.w X.K X.mg X.base CX k f fd ps sp) (hr : Room k X.A) (hg : Gl X x) (hm : X.mg x = some (.ref f)) (hk : PySem.W.keepIn X.K (.ref f) = true) (hb : KBn X.K fd ps 0 ks g gV) (hx : ∀ σ, PassesAt CX X σ (Eσ σ))
    (hkw : PK X kws tk) (hall : (backToKw pos (keywordEach kws X.env)).all (·.1.isSome) = true := by rfl) (hks : (backToKw pos (keywordEach kws X.env)).filterMap (·.1) = ks := by rfl)
    (hdb : (x == ("__debug__" : Str)) = false := by decide) (hpl : ((backTo pos (starEach [] X.env)).any (·.1) || (backToKw pos (keywordEach kws X.env)).any (·.1.isNone)) = false := by rfl) :
    PE X (.Call (.Name x p) [] kws pos) (tCallSK 0 ks.length sp gV Eσ tNil tk) := by
  refine ⟨fun pins s σ H Q I h => ?_⟩
  refine wpAny_Call_Name_kw (ld_glob I hg hm ?_ hdb)
  refine PySem.W.callWith_KW0 (h₀ := X.base) I.ok.mod.kin hk hall ?_ hpl
  refine thn (hkw.run pos pins s σ H _ I h) fun ws s2 ⟨zs, H2, I2, rz, l1, l2, q2⟩ => ⟨I2.kIn, ?_⟩
  rw [hks]
  exact run_fnSK (us := []) (vs := []) F hr hb (hx σ) I2 .nil rz l1 l2 q2
theorem pe_makeSK (M : Mk X.K C f) (F : FnOk X.prog X.w X.K X.mg X.base CX k f fd ps sp) (hr : Room (k + 1) X.A) (hg : Gl X x) (hm : X.mg x = some (.ref C)) (hb : KBn X.K fd ps (n + 1) ks g gV) (hx : ∀ σ, PassesAt CX X σ (Eσ σ))
    (ha : PA X (e :: es) t) (hkw : PK X kws tk) (hall : (backToKw pos (keywordEach kws X.env)).all (·.1.isSome) = true := by rfl) (hks : (backToKw pos (keywordEach kws X.env)).filterMap (·.1) = ks := by rfl)
    (hdb : (x == ("__debug__" : Str)) = false := by decide) (he : starEach (e :: es) X.env = (false, eval e X.env) :: starEach es X.env := by rfl)
    (hpl : ((backTo pos (starEach (e :: es) X.env)).any (·.1) || (backToKw pos (keywordEach kws X.env)).any (·.1.isNone)) = false := by rfl) :
    PE X (.Call (.Name x p) (e :: es) kws pos) (tMakeSK C n ks.length sp gV Eσ t tk) := by
  refine ⟨fun pins s σ H Q I h => ?_⟩
  refine wpAny_Call_Name_kw (ld_glob I hg hm ?_ hdb)
  refine PySem.W.callWith_KW (h₀ := X.base) I.ok.mod.kin M.kp hall (thn (ha.run pos pins s σ H _ I h) fun us s1 ⟨vs, H1, I1, r, q⟩ => ?_) hpl he
  refine thn (hkw.run pos pins s1 σ H1 _ I1 q) fun ws s2 ⟨zs, H2, I2, rz, l1, l2, q2⟩ => ⟨I2.kIn, ?_⟩
  rw [hks]
  exact run_makeSK M F hr hb (hx σ) I2 r rz l1 l2 q2
theorem pe_makeSK0 (M : Mk X.K C f) (F : FnOk X.prog X.w X.K X.mg X.base CX k f fd ps sp) (hr : Room (k + 1) X.A) (hg : Gl X x) (hm : X.mg x = some (.ref C)) (hb : KBn X.K fd ps 1 ks g gV) (hx : ∀ σ, PassesAt CX X σ (Eσ σ))
    (hkw : PK X kws tk) (hall : (backToKw pos (keywordEach kws X.env)).all (·.1.isSome) = true := by rfl) (hks : (backToKw pos (keywordEach kws X.env)).filterMap (·.1) = ks := by rfl)
    (hdb : (x == ("__debug__" : Str)) = false := by decide) (hpl : ((backTo pos (starEach [] X.env)).any (·.1) || (backToKw pos (keywordEach kws X.env)).any (·.1.isNone)) = false := by rfl) :
    PE X (.Call (.Name x p) [] kws pos) (tMakeSK C 0 ks.length sp gV Eσ tNil tk) := by
  refine ⟨fun pins s σ H Q I h => ?_⟩
  refine wpAny_Call_Name_kw (ld_glob I hg hm ?_ hdb)
  refine PySem.W.callWith_KW0 (h₀ := X.base) I.ok.mod.kin M.kp hall ?_ hpl
  refine thn (hkw.run pos pins s σ H _ I h) fun ws s2 ⟨zs, H2, I2, rz, l1, l2, q2⟩ => ⟨I2.kIn, ?_⟩
  rw [hks]
  exact run_makeSK (us := []) (vs := []) M F hr hb (hx σ) I2 .nil rz l1 l2 q2
theorem pe_methSK {pl : Sem Bool} (he : PE X o to) (c : Cls X.K C) (hm : Meth X.K C m f) (F : FnOk X.prog X.w X.K X.mg X.base CX k f fd ps sp) (hr : Room k X.A) (hb : KBn X.K fd ps (n + 1) ks g gV) (hx : ∀ σ, PassesAt CX X σ (Eσ σ)) (ha : PA X (e :: es) t) (hkw : PK X kws tk)
    (hall : (backToKw pos (keywordEach kws X.env)).all (·.1.isSome) = true := by rfl) (hks : (backToKw pos (keywordEach kws X.env)).filterMap (·.1) = ks := by rfl)
    (hst : starEach (e :: es) X.env = (false, eval e X.env) :: starEach es X.env := by rfl)
    (hpl : ((backTo pos (starEach (e :: es) X.env)).any (·.1) || (backToKw pos (keywordEach kws X.env)).any (·.1.isNone)) = false := by rfl)
    (ht : eval (.Call (.Attribute o m apos) (e :: es) kws pos) X.env = (do
      let ov ← eval o X.env
      standAt apos.atName
      let (f, first) ← holding [ov] (getMethod ov m pl)
      callWith pos f first (backTo pos (starEach (e :: es) X.env)) (backToKw pos (keywordEach kws X.env))) := by rfl) :
    PE X (.Call (.Attribute o m apos) (e :: es) kws pos) (tMethSK C n ks.length m sp gV Eσ to t tk) := by
  refine ⟨fun pins s σ H Q I h => ?_⟩
  refine PySem.W.methodCall_KW (pl := pl) (thn (he.run pins s σ H _ I h) fun u s1 ⟨x, H1, I1, rx, a, dx, fs, ex, ea, l, q⟩ => ?_) ht
  subst ex
  obtain rfl : u = Value.ref a := rx
  refine getmeth_ok I1 ea c hm l ?_
  refine PySem.W.callWith_KW (first := [.ref a]) (h₀ := X.base) I.ok.mod.kin hm.kp hall (thn (ha.run pos pins s1 σ H1 _ I1 q) fun us s2 ⟨vs, H2, I2, r, q2⟩ => ?_) hpl hst
  refine thn (hkw.run pos pins s2 σ H2 _ I2 q2) fun ws s3 ⟨zs, H3, I3, rz, l1, l2, q3⟩ => ⟨I3.kIn, ?_⟩
  rw [hks]
  exact run_fnSK (us := .ref a :: us) (vs := .ref a :: vs) F hr hb (hx σ) I3 (.cons rfl r) rz (by rw [List.length_cons, l1]) l2 q3
theorem pe_methSK0 {pl : Sem Bool} (he : PE X o to) (c : Cls X.K C) (hm : Meth X.K C m f) (F : FnOk X.prog X.w X.K X.mg X.base CX k f fd ps sp) (hr : Room k X.A) (hb : KBn X.K fd ps 1 ks g gV) (hx : ∀ σ, PassesAt CX X σ (Eσ σ)) (hkw : PK X kws tk)
    (hall : (backToKw pos (keywordEach kws X.env)).all (·.1.isSome) = true := by rfl) (hks : (backToKw pos (keywordEach kws X.env)).filterMap (·.1) = ks := by rfl)
    (hpl : ((backTo pos (starEach [] X.env)).any (·.1) || (backToKw pos (keywordEach kws X.env)).any (·.1.isNone)) = false := by rfl)
    (ht : eval (.Call (.Attribute o m apos) [] kws pos) X.env = (do
      let ov ← eval o X.env
      standAt apos.atName
      let (f, first) ← holding [ov] (getMethod ov m pl)
      callWith pos f first (backTo pos (starEach [] X.env)) (backToKw pos (keywordEach kws X.env))) := by rfl) :
    PE X (.Call (.Attribute o m apos) [] kws pos) (tMethSK C 0 ks.length m sp gV Eσ to tNil tk) := by
  refine ⟨fun pins s σ H Q I h => ?_⟩
  refine PySem.W.methodCall_KW (pl := pl) (thn (he.run pins s σ H _ I h) fun u s1 ⟨x, H1, I1, rx, a, dx, fs, ex, ea, l, q⟩ => ?_) ht
  subst ex
  obtain rfl : u = Value.ref a := rx
  refine getmeth_ok I1 ea c hm l ?_
  refine PySem.W.callWith_KW0 (first := [.ref a]) (h₀ := X.base) I.ok.mod.kin hm.kp hall ?_ hpl
  refine thn (hkw.run pos pins s1 σ H1 _ I1 q) fun ws s3 ⟨zs, H3, I3, rz, l1, l2, q3⟩ => ⟨I3.kIn, ?_⟩
  rw [hks]
  exact run_fnSK (us := [.ref a]) (vs := [.ref a]) F hr hb (hx σ) I3 (.cons rfl .nil) rz rfl l2 q3
end
end Sm

set_option autoImplicit true
set_option Elab.async false
set_option linter.all false
set_option maxRecDepth 100000
set_option maxHeartbeats 4000000
/-! Calls with keywords and defaults, constructors, methods: what they do to data. -/
namespace Sm
open PySem PySem.Spec PyProof.Rows L2

/-! ### keywords' values -/
structure SK (X : Cx) (W : WX) (kws : List Keyword) (m : En → Res (List D)) : Prop where
  ex : ∃ t, PK X kws t ∧ Sim RA X.K W t m
section
variable {X : Cx} {W : WX} {kws : List Keyword} {e : Expr} {nm : Option Str} {kpos : Pos} {ma : En → Res D} {mr : En → Res (List D)}
theorem sk_nil : SK X W [] mNil := ⟨_, pk_nil, fun _ _ _ _ B H I Q q => q [] B H (Xt.refl I.xs) repsNil⟩
theorem sk_cons (h : SE X W RP e ma) (k : SK X W kws mr) : SK X W (⟨nm, e, kpos⟩ :: kws) (mCons ma mr) := by
  obtain ⟨t, p, s⟩ := h.ex
  obtain ⟨u, q, r⟩ := k.ex
  refine ⟨_, pk_cons p q, ?_⟩
  refine Sim.bind (R := RP) (S := RA) (u := fun x σ H Q => u σ H fun xs H2 => Q (x :: xs) H2) s fun B0 H0 env σ B H a v B1 H1 I x r1 => ?_
  cases e2 : mr env with
  | stuck => unfold mB; rw [e2]; trivial
  | exc c fn fv => unfold mB; rw [e2]; exact fun Q z => r.exc I e2 fun od B' H' y w => z od B' H' (x.trans y) w
  | ok ds =>
    unfold mB
    rw [e2]
    refine fun Q z => r.ok I e2 fun vs B2 H2 y I2 r2 => z _ B2 H2 (x.trans y) ?_
    show Reps _ _ _ _
    simp only [Reps]
    exact ⟨v, vs, rfl, Rep.mono y.b r1, r2⟩
end
/-! ### two rows of values -/
def mCall2 {α : Type} (F : List D → Res α) (n m : Nat) (sp : List Sl) (dd md : List D) (ma mk : En → Res (List D)) : En → Res α := mB ma fun ds => mB mk fun es _ => if ds.length = n ∧ es.length = m then F (arr sp ds dd md es) else .stuck
theorem sim_two {α β : Type} {R : RG α β} {K : PySem.W.Frag} {W : WX} {F : List D → Res α} {n m : Nat} {sp : List Sl} {dd md : List D} {ma mk : En → Res (List D)} {t tk : TA} {u : List V → List V → L2.St → Hp → (β → Hp → Prop) → Prop}
    (ha : Sim RA K W t ma) (hk : Sim RA K W tk mk)
    (k : ∀ B0 H0 env σ B H ds vs es zs B1 H1, SI K B0 H0 env σ B1 H1 → Xt B H B1 H1 → Reps K B1 ds vs → Reps K B1 es zs → vs.length = n → zs.length = m → Post R K W σ B H (F (arr sp ds dd md es)) (u vs zs σ H1)) :
    Sim R K W (fun σ H Q => t σ H fun vs H1 => tk σ H1 fun zs H2 => u vs zs σ H2 Q) (mCall2 F n m sp dd md ma mk) := by
  unfold mCall2
  refine Sim.bind (R := RA) (S := R) (u := fun vs σ H1 Q => tk σ H1 fun zs H2 => u vs zs σ H2 Q) ha fun B0 H0 env σ B H ds vs B1 H1 I x r1 => ?_
  unfold mB
  cases e2 : mk env with
  | stuck => trivial
  | exc c fn fv => exact fun Q q => hk.exc I e2 fun od B' H' y w => q od B' H' (x.trans y) w
  | ok es =>
    show Post R K W σ B H (if ds.length = n ∧ es.length = m then F (arr sp ds dd md es) else .stuck) _
    by_cases c : ds.length = n ∧ es.length = m
    · rw [if_pos c]
      cases e3 : F (arr sp ds dd md es) with
      | stuck => trivial
      | exc c2 fn fv =>
        refine fun Q q => hk.ok I e2 fun zs B2 H2 y I2 r2 => ?_
        have z := k B0 H0 env σ B H ds vs es zs B2 H2 I2 (x.trans y) (r1.mono y.b) r2 (by rw [← c.1]; exact (Reps.length r1).symm) (by rw [← c.2]; exact (Reps.length r2).symm)
        rw [e3] at z
        exact z Q q
      | ok a =>
        refine fun Q q => hk.ok I e2 fun zs B2 H2 y I2 r2 => ?_
        have z := k B0 H0 env σ B H ds vs es zs B2 H2 I2 (x.trans y) (r1.mono y.b) r2 (by rw [← c.1]; exact (Reps.length r1).symm) (by rw [← c.2]; exact (Reps.length r2).symm)
        rw [e3] at z
        exact z Q q
    · rw [if_neg c]
      trivial
section
variable {X : Cx} {W : WX} {k n : Nat} {f : Addr} {fd : FuncData} {ps ks : List Str} {x : Str} {p pos : Pos} {e : Expr} {es : List Expr} {kws : List Keyword} {ma mk : En → Res (List D)} {F : List D → Res D} {G : List D → Res Ob} {sp : List Sl} {dd md : List D}
theorem se_callK (Fn : FnOk X.prog X.w X.K X.mg X.base (L2.CX X.prog X.w) k f fd ps (spD X.K F)) (hr : Room k X.A) (tk : Takes X W) (hm : X.mg x = some (.ref f)) (hk : PySem.W.keepIn X.K (.ref f) = true) (hb : KB X.K fd ps n ks sp dd md)
    (ha : SA X W (e :: es) ma) (hkw : SK X W kws mk) (hg : Gl X x := by rfl) (hall : (backToKw pos (keywordEach kws X.env)).all (·.1.isSome) = true := by rfl) (hks : (backToKw pos (keywordEach kws X.env)).filterMap (·.1) = ks := by rfl)
    (hdb : (x == ("__debug__" : Str)) = false := by decide) (he : starEach (e :: es) X.env = (false, eval e X.env) :: starEach es X.env := by rfl)
    (hpl : ((backTo pos (starEach (e :: es) X.env)).any (·.1) || (backToKw pos (keywordEach kws X.env)).any (·.1.isNone)) = false := by rfl) :
    SE X W RP (.Call (.Name x p) (e :: es) kws pos) (mCall2 F n ks.length sp dd md ma mk) := by
  obtain ⟨t, pa, s⟩ := ha.ex
  obtain ⟨t2, pk, s2⟩ := hkw.ex
  obtain ⟨g, dvs, mvs, hb, h1, h2⟩ := hb.ex
  refine ⟨_, pe_callSK Fn hr hg hm hk hb (fun σ => passAt tk σ) pa pk hall hks hdb he hpl, ?_⟩
  refine sim_two (R := RP) (u := fun vs zs σ H Q => vs.length = n ∧ zs.length = ks.length ∧ spD X.K F (arr sp vs dvs mvs zs) H Q (WE W σ)) s s2 fun B0 H0 env σ B H ds vs es zs B1 H1 I x r1 r2 l1 l2 => ?_
  exact Post.wrap (post_D I.xs x (reps_arr r1 (h1 B1) (h2 B1) r2 sp)) fun Q q => ⟨l1, l2, q⟩
theorem se_callK0 (Fn : FnOk X.prog X.w X.K X.mg X.base (L2.CX X.prog X.w) k f fd ps (spD X.K F)) (hr : Room k X.A) (tk : Takes X W) (hm : X.mg x = some (.ref f)) (hk : PySem.W.keepIn X.K (.ref f) = true) (hb : KB X.K fd ps 0 ks sp dd md)
    (hkw : SK X W kws mk) (hg : Gl X x := by rfl) (hall : (backToKw pos (keywordEach kws X.env)).all (·.1.isSome) = true := by rfl) (hks : (backToKw pos (keywordEach kws X.env)).filterMap (·.1) = ks := by rfl)
    (hdb : (x == ("__debug__" : Str)) = false := by decide) (hpl : ((backTo pos (starEach [] X.env)).any (·.1) || (backToKw pos (keywordEach kws X.env)).any (·.1.isNone)) = false := by rfl) :
    SE X W RP (.Call (.Name x p) [] kws pos) (mCall2 F 0 ks.length sp dd md mNil mk) := by
  obtain ⟨t2, pk, s2⟩ := hkw.ex
  obtain ⟨g, dvs, mvs, hb, h1, h2⟩ := hb.ex
  refine ⟨_, pe_callSK0 Fn hr hg hm hk hb (fun σ => passAt tk σ) pk hall hks hdb hpl, ?_⟩
  refine sim_two (R := RP) (t := tNil) (u := fun vs zs σ H Q => vs.length = 0 ∧ zs.length = ks.length ∧ spD X.K F (arr sp vs dvs mvs zs) H Q (WE W σ)) (fun _ _ _ _ B H I Q q => q [] B H (Xt.refl I.xs) repsNil) s2 fun B0 H0 env σ B H ds vs es zs B1 H1 I x r1 r2 l1 l2 => ?_
  exact Post.wrap (post_D I.xs x (reps_arr r1 (h1 B1) (h2 B1) r2 sp)) fun Q q => ⟨l1, l2, q⟩
theorem se_callFK (Fn : FnOk X.prog X.w X.K X.mg X.base (L2.CX X.prog X.w) k f fd ps (spF X.K G)) (hr : Room k X.A) (tk : Takes X W) (hm : X.mg x = some (.ref f)) (hk : PySem.W.keepIn X.K (.ref f) = true) (hb : KB X.K fd ps n ks sp dd md)
    (ha : SA X W (e :: es) ma) (hkw : SK X W kws mk) (hg : Gl X x := by rfl) (hall : (backToKw pos (keywordEach kws X.env)).all (·.1.isSome) = true := by rfl) (hks : (backToKw pos (keywordEach kws X.env)).filterMap (·.1) = ks := by rfl)
    (hdb : (x == ("__debug__" : Str)) = false := by decide) (he : starEach (e :: es) X.env = (false, eval e X.env) :: starEach es X.env := by rfl)
    (hpl : ((backTo pos (starEach (e :: es) X.env)).any (·.1) || (backToKw pos (keywordEach kws X.env)).any (·.1.isNone)) = false := by rfl) :
    SE X W RFO (.Call (.Name x p) (e :: es) kws pos) (mCall2 G n ks.length sp dd md ma mk) := by
  obtain ⟨t, pa, s⟩ := ha.ex
  obtain ⟨t2, pk, s2⟩ := hkw.ex
  obtain ⟨g, dvs, mvs, hb, h1, h2⟩ := hb.ex
  refine ⟨_, pe_callSK Fn hr hg hm hk hb (fun σ => passAt tk σ) pa pk hall hks hdb he hpl, ?_⟩
  refine sim_two (R := RFO) (u := fun vs zs σ H Q => vs.length = n ∧ zs.length = ks.length ∧ spF X.K G (arr sp vs dvs mvs zs) H Q (WE W σ)) s s2 fun B0 H0 env σ B H ds vs es zs B1 H1 I x r1 r2 l1 l2 => ?_
  exact Post.wrap (post_F I.xs x (reps_arr r1 (h1 B1) (h2 B1) r2 sp)) fun Q q => ⟨l1, l2, q⟩
end
end Sm

set_option autoImplicit true
set_option Elab.async false
set_option linter.all false
set_option maxRecDepth 100000
set_option maxHeartbeats 4000000
/-! __init__ and the making of instances. -/
namespace Sm
open PySem PySem.Spec PyProof.Rows L2

/-! ### statements that keep the first slot -/
def Post0 (K : PySem.W.Frag) (W : WX) (B0 H0 : Hp) (v0 : Option (Option V)) (r : SR) (D : Ends) (T : Prop) : Prop := match r with
  | .nx env => (∀ σ' B' H', SI K B0 H0 env σ' B' H' → σ'[0]? = v0 → D.nx σ' H') → T
  | .exc env c fn fv => (∀ σ' B' H' od, SI K B0 H0 env σ' B' H' → XR K B' fn fv od → W (.ref (He.ga K c)) od σ' H') → T
  | _ => True
def Sim0 (K : PySem.W.Frag) (W : WX) (t : TS) (m : En → SR) : Prop := ∀ B0 H0 env σ B H, SI K B0 H0 env σ B H → ∀ D : Ends, Post0 K W B0 H0 σ[0]? (m env) D (t D σ H)
structure S0 (X : Cx) (W : WX) (st : Stmt) (m : En → SR) : Prop where
  ex : ∃ t, PS X st t ∧ Sim0 X.K W t m
structure B0 (X : Cx) (W : WX) (st : List Stmt) (m : En → SR) : Prop where
  ex : ∃ t, PSs X st t ∧ Sim0 X.K W t m
theorem Sim0.of {α β : Type} {R : RG α β} {K W} {t : L2.St → Hp → (β → Hp → Prop) → Prop} {m : En → Res α} {f : α → En → SR} {u : β → TS} (h : Sim R K W t m)
    (k : ∀ B0 H0 env σ B H a v B1 H1, SI K B0 H0 env σ B H → Xt B H B1 H1 → SI K B0 H0 env σ B1 H1 → R K H B1 H1 a v → ∀ D : Ends, Post0 K W B0 H0 σ[0]? (f a env) D (u v D σ H1)) :
    Sim0 K W (fun D σ H => t σ H fun v H1 => u v D σ H1) (mS m f) := by
  intro B0 H0 env σ B H I D
  unfold mS
  cases e : m env with
  | stuck => trivial
  | exc c fn fv =>
    intro q
    exact h.exc I e fun od B' H' x r => q σ B' H' od (I.xt x) r
  | ok a =>
    have key : ∀ v B1 H1, Xt B H B1 H1 → SI K B0 H0 env σ B1 H1 → R K H B1 H1 a v → Post0 K W B0 H0 σ[0]? (f a env) D (u v D σ H1) := fun v B1 H1 x I1 r => k B0 H0 env σ B H a v B1 H1 I x I1 r D
    show Post0 K W B0 H0 _ (f a env) D _
    cases e2 : f a env with
    | nx env' => exact fun q => h.ok I e fun v B1 H1 x I1 r => by have z := key v B1 H1 x I1 r; rw [e2] at z; exact z q
    | exc env' c fn fv => exact fun q => h.ok I e fun v B1 H1 x I1 r => by have z := key v B1 H1 x I1 r; rw [e2] at z; exact z q
    | _ => trivial
theorem sim0_seq {K W t u m n} (h : Sim0 K W t m) (k : Sim0 K W u n) : Sim0 K W (tSeq t u) (mSeq m n) := by
  intro B0 H0 env σ B H I D
  have z := h B0 H0 env σ B H I { D with nx := u D }
  unfold mSeq
  cases e : m env with
  | nx env' =>
    rw [e] at z
    show Post0 K W B0 H0 _ (n env') D (t { D with nx := u D } σ H)
    have key : ∀ σ' B' H', SI K B0 H0 env' σ' B' H' → σ'[0]? = σ[0]? → Post0 K W B0 H0 σ[0]? (n env') D (u D σ' H') := fun σ' B' H' I' e0 => by rw [← e0]; exact k B0 H0 env' σ' B' H' I' D
    cases e2 : n env' with
    | nx _ => exact fun q => z fun σ' B' H' I' e0 => by have y := key σ' B' H' I' e0; rw [e2] at y; exact y q
    | exc _ _ _ _ => exact fun q => z fun σ' B' H' I' e0 => by have y := key σ' B' H' I' e0; rw [e2] at y; exact y q
    | _ => trivial
  | exc _ _ _ _ => rw [e] at z; exact z
  | _ => trivial
section
variable {X : Cx} {W : WX} {st : Stmt} {rest : List Stmt} {m n : En → SR} {x f : Str} {np pos pos' : Pos} {e : Expr} {me : En → Res D}
theorem b0_nil : B0 X W [] mNx := ⟨_, pss_nil, fun B0 H0 env σ B H I D q => q σ B H I rfl⟩
theorem b0_cons (h : S0 X W st m) (k : B0 X W rest n) : B0 X W (st :: rest) (mSeq m n) := let ⟨_, p, s⟩ := h.ex; let ⟨_, q, r⟩ := k.ex; ⟨_, pss_cons p q, sim0_seq s r⟩
theorem b0_one (h : S0 X W st m) : B0 X W [st] m := let ⟨_, p, s⟩ := h.ex; ⟨_, pss_one p, s⟩
theorem s0_fld {cs : List Str} (i : Nat) (ok : FldOk X.K cs f) (he : SE X W RP e me) (hN : X.N[i]? = some x := by rfl) (hv : Vis X.env.scope x := by first | exact Or.inl rfl | exact Or.inr (Or.inl rfl) | exact Or.inr (Or.inr rfl)) (hd : (x == ("__debug__" : Str)) = false := by decide)
    (hcd : (x == ("__classdict__" : Str)) = false := by decide) (hs : swapsWith e (some (.Attribute (.Name x np) f pos')) pos.line X.env = pure false := by rfl) : S0 X W (.Assign [.Attribute (.Name x np) f pos'] e pos) (mSetFld i cs f me) := by
  obtain ⟨t, p, s⟩ := he.ex
  refine ⟨_, ps_fld (pe_var hN hv hd hcd) p hs, ?_⟩
  refine Sim0.of (R := RP) (u := fun y D σ H1 => ∃ v, σ[i]? = some (some v) ∧ ∃ a C dx fs, v = .ref a ∧ H1 a = some (.ins C dx fs) ∧ Cls X.K C ∧ NoAttr X.K C f ∧ fs.length < 1000 ∧ D.nx σ (upd H1 a (.ins C dx (putF f y fs)))) s fun B0 H0 env σ B H d v B1 H1 I0 y I r D => ?_
  cases e1 : env[i]? with
  | none => trivial
  | some c =>
    cases c with
    | un => trivial
    | sh d => trivial
    | ow o =>
      cases o with
      | lst _ => trivial
      | dct _ _ => trivial
      | dtt _ _ => trivial
      | ins c fn fv =>
        show Post0 _ _ _ _ _ (if (cs.contains c && Nat.blt fn.length 1000) = true then _ else _) _ _
        by_cases hc : (cs.contains c && Nat.blt fn.length 1000) = true
        · rw [if_pos hc]
          have hc' := Bool.and_eq_true_iff.mp hc
          obtain ⟨p, ho, hs, h0, hb', hh, dx, vs, eo, h2, h3⟩ := I.ow i _ e1
          subst eo
          obtain ⟨ws, w1, w2, w3⟩ := put_rep r (f := f) h2 h3
          obtain ⟨k1, k2⟩ := ok c (by simpa using hc'.1)
          refine fun q => ⟨.ref p, hs, p, _, dx, _, rfl, hh, k1, k2, ?_, q σ B1 _ (I.mut (o' := .ins c (putN f fn) (putD f d fn fv)) e1 hs ⟨dx, ws, ?_, w2, w3⟩) rfl⟩
          · rw [List.length_zip, ← h2, Nat.min_self]
            have := hc'.2
            simpa [Nat.blt_eq] using this
          · rw [w1]
        · rw [if_neg hc]
          trivial
theorem s0_set (i : Nat) (hi0 : i ≠ 0) (hN : X.N.Nodup) (he : SE X W RP e me) (hi : X.N[i]? = some x := by rfl) (hx : Loc X.env.scope x := by first | exact Or.inl rfl | exact Or.inr rfl) (hs : swapsWith e (some (.Name x pos')) pos.line X.env = pure false := by rfl) (hf : X.fn x = true ∨ X.env.scope.names.lookup x = some .local := by first | exact .inl rfl | exact .inr rfl | assumption) :
    S0 X W (.Assign [.Name x pos'] e pos) (mSet i me) := by
  obtain ⟨t, p, s⟩ := he.ex
  refine ⟨_, ps_set hN hi hx p hs hf, ?_⟩
  refine Sim0.of (R := RP) (u := fun v D σ H => gName i v σ H D.nx) s fun B0 H0 env σ B H a v B1 H1 _ x I r D => ?_
  exact fun q => q _ B1 H1 (I.setSh i r) (by rw [List.getElem?_set_ne hi0])
end
/-! ### __init__ -/
def spI (K : PySem.W.Frag) (c : Str) (F : List D → Res Ob) : Sp := fun vs H Q E => ∃ B H1 ds vs' p dx, vs = .ref p :: vs' ∧ H = upd (upd H1 dx (.own p)) p (.ins (He.ga K c) dx []) ∧ H1 p = none ∧ H1 dx = none ∧ dx ≠ p ∧ Ex B H1 ∧ Reps K B ds vs' ∧ match F ds with
  | .ok o => ∀ ho B' H', Xt B H1 B' H' → B' p = none → H' p = some ho → RepO K B' o ho → Q .non H'
  | .exc c fn fv => ∀ od B' H', Xt B H1 B' H' → XR K B' fn fv od → E (.ref (He.ga K c)) od H'
  | .stuck => False
def envI (c : Str) (n : Nat) (ds : List D) : En := .ow (.ins c [] []) :: envOf (n - 1) ds
def owAt : Option Cl → Res Ob
  | some (.ow o) => .ok o
  | _ => .stuck
def runI (c : Str) (n np : Nat) (m : En → SR) (ds : List D) : Res Ob := if ds.length + 1 = np then (match m (envI c n ds) with
  | .nx env' => owAt env'[0]?
  | .exc _ c fn fv => .exc c fn fv
  | _ => .stuck) else .stuck
theorem start_si {K : PySem.W.Frag} {B H1 : Hp} {c : Str} {ds : List D} {vs : List V} {N : List Str} {p dx : Addr} (hn : 1 ≤ N.length) (s : Ex B H1) (hp : H1 p = none) (hd : H1 dx = none) (hne : dx ≠ p) (r : Reps K B ds vs) :
    SI K B H1 (envI c N.length ds) (L2.start N (.ref p :: vs)) B (upd (upd H1 dx (.own p)) p (.ins (He.ga K c) dx [])) ∧ (L2.start N (.ref p :: vs))[0]? = some (some (.ref p)) := by
  have hl := r.length
  have es : L2.start N (.ref p :: vs) = some (V.ref p) :: (vs.map some ++ List.replicate (N.length - 1 - vs.length) none) := by
    unfold L2.start
    have e : N.length - (V.ref p :: vs).length = N.length - 1 - vs.length := by rw [List.length_cons]; omega
    rw [e]
    rfl
  have x1 : Ex H1 (upd H1 dx (.own p)) := Ex.new hd
  have x2 : Ex (upd H1 dx (.own p)) (upd (upd H1 dx (.own p)) p (.ins (He.ga K c) dx [])) := Ex.new (by rw [upd_ne (Ne.symm hne)]; exact hp)
  have no : ∀ (i : Nat) (o : Ob), (envOf (N.length - 1) ds)[i]? ≠ some (Cl.ow o) := fun i o h => by
    unfold envOf at h
    by_cases hi : i < ds.length
    · rw [List.getElem?_append_left (by simpa using hi), List.getElem?_map, List.getElem?_eq_getElem hi] at h
      cases h
    · rw [List.getElem?_append_right (by simpa using hi), List.getElem?_replicate] at h
      split at h <;> cases h
  rw [es]
  refine ⟨⟨?_, Ex.refl _, x1.trans x2, s.trans (x1.trans x2), fun _ h _ => h, fun i d h => ?_, fun i o h => ?_, fun i j xs ys q h1 h2 _ _ => ?_⟩, rfl⟩
  · unfold envI envOf
    rw [List.length_cons, List.length_cons, List.length_append, List.length_append, List.length_map, List.length_map, List.length_replicate, List.length_replicate, hl]
  · unfold envI at h
    cases i with
    | zero => cases h
    | succ i =>
      have h' : (envOf (N.length - 1) ds)[i]? = some (Cl.sh d) := h
      unfold envOf at h'
      by_cases hi : i < ds.length
      · rw [List.getElem?_append_left (by simpa using hi), List.getElem?_map] at h'
        cases e : ds[i]? with
        | none => rw [e] at h'; cases h'
        | some d' =>
          rw [e] at h'
          cases h'
          obtain ⟨v, hv, rv⟩ := r.get e
          refine ⟨v, ?_, rv⟩
          show (vs.map some ++ List.replicate (N.length - 1 - vs.length) none)[i]? = _
          rw [List.getElem?_append_left (by rw [List.length_map, ← hl]; exact hi), List.getElem?_map, hv]
          rfl
      · rw [List.getElem?_append_right (by simpa using hi), List.getElem?_replicate] at h'
        split at h' <;> cases h'
  · cases i with
    | zero =>
      have h' : some (Cl.ow (.ins c [] [])) = some (Cl.ow o) := h
      cases h'
      exact ⟨p, _, rfl, hp, s.free hp, upd_same, dx, [], rfl, rfl, repsNil⟩
    | succ i => exact absurd h (no i o)
  · cases i with
    | zero =>
      cases j with
      | zero => rfl
      | succ j => exact absurd h2 (no j ys)
    | succ i => exact absurd h1 (no i xs)
section
variable {P : Program} {w : World} {K : PySem.W.Frag} {mg : Str → Option Value} {base : Heap} {x qual : Str} {params : Arguments} {body : List Stmt} {scope : Scope} {dvs : List V} {kws : List (Str × V)} {f : Addr} {fd : FuncData} {N ps : List Str} {k : Nat} {m : En → SR}
theorem fn_I (c : Str) (F : FunD K x qual params body scope dvs kws f fd) (S : FnScope N ps scope)
    (hb : ∀ (cdv : Value) (A : Around) (outer : List Env) (s : Shared) (H : Hp) (E : XK), Room k (A.deeper (envOfC qual scope s.heap.objs.size f cdv)) → B0 (cxOf (L2.CX P w) P w K mg base N qual scope f cdv A outer s H E) (fun cls d _ H => E cls d H) body m) (hn : 1 ≤ N.length := by decide) :
    FnOk P w K mg base (L2.CX P w) (k + 1) f fd ps (spI K c (runI c N.length ps.length m)) := by
  have len : ∀ vs H Q E, spI K c (runI c N.length ps.length m) vs H Q E → vs.length = ps.length := fun vs H Q E h => by
    obtain ⟨B, H1, ds, vs', p, dx, e, _, _, _, _, _, r, h⟩ := h
    subst e
    by_cases hl : ds.length + 1 = ps.length
    · rw [List.length_cons, ← r.length]; exact hl
    · unfold runI at h
      rw [if_neg hl] at h
      exact h.elim
  refine F.ok S len fun cdv A outer s H vs Q E hr hsp => ?_
  obtain ⟨t, pt, st⟩ := (hb cdv A outer s H E hr).ex
  refine ⟨t, pt, ?_⟩
  have hl := len _ _ _ _ hsp
  obtain ⟨B, H1, ds, vs', p, dx, e, eH, h1, h2, h3, sx, r, h⟩ := hsp
  subst e eH
  have hl' : ds.length + 1 = ps.length := by rw [r.length]; exact hl
  unfold runI at h
  rw [if_pos hl'] at h
  obtain ⟨I0, e0⟩ := start_si (c := c) hn sx h1 h2 h3 r
  have z := st B H1 (envI c N.length ds) (L2.start N (.ref p :: vs')) B _ I0 { nx := fun _ H' => Q .non H', rt := Q }
  cases e : m (envI c N.length ds) with
  | nx env' =>
    rw [e] at h z
    refine z fun σ' B' H' I es => ?_
    rw [e0] at es
    have h' : (match owAt env'[0]? with
      | .ok o => ∀ ho B' H', Xt B H1 B' H' → B' p = none → H' p = some ho → RepO K B' o ho → Q .non H'
      | .exc c fn fv => ∀ od B' H', Xt B H1 B' H' → XR K B' fn fv od → E (.ref (He.ga K c)) od H'
      | .stuck => False) := h
    cases e1 : env'[0]? with
    | none => rw [e1] at h'; exact h'.elim
    | some cl =>
      rw [e1] at h'
      cases cl with
      | un => exact h'.elim
      | sh d => exact h'.elim
      | ow o =>
        obtain ⟨p', ho, hs, g0, gb, gh, gr⟩ := I.ow 0 o e1
        rw [es] at hs
        cases hs
        exact h' ho B' H' I.xt0 gb gh gr
  | rt d => rw [e] at h; exact h.elim
  | rf d => rw [e] at h; exact h.elim
  | bk d => rw [e] at h; exact h.elim
  | ct d => rw [e] at h; exact h.elim
  | exc en c fn fv => rw [e] at h z; exact z fun σ' B' H' od I q => h od B' H' I.xt0 q
  | stuck => rw [e] at h; exact h.elim
end
end Sm

set_option autoImplicit true
set_option Elab.async false
set_option linter.all false
set_option maxRecDepth 100000
set_option maxHeartbeats 4000000
/-! Making instances, their methods. -/
namespace Sm
open PySem PySem.Spec PyProof.Rows L2

def Sl.up : Sl → Sl
  | .p i => .p (i + 1)
  | s => s
theorem arr_up0 {α : Type} (x : α) (us ds mz zs : List α) : ∀ sp : List Sl, arr (sp.map Sl.up) (x :: us) ds mz zs = arr sp us ds mz zs
  | [] => rfl
  | s :: sp => by
    have ih := arr_up0 x us ds mz zs sp
    unfold arr at ih ⊢
    have e : pick (x :: us) ds mz zs s.up = pick us ds mz zs s := by cases s <;> rfl
    rw [List.map_cons, List.filterMap_cons, List.filterMap_cons, e, ih]
theorem arr_up {α : Type} (x : α) (us ds mz zs : List α) (sp : List Sl) : arr (.p 0 :: sp.map Sl.up) (x :: us) ds mz zs = x :: arr sp us ds mz zs := by
  have h := arr_up0 x us ds mz zs sp
  unfold arr at h ⊢
  rw [List.filterMap_cons_some (show pick (x :: us) ds mz zs (.p 0) = some x from rfl), h]
/-- two rows of values, at one state -/
def mTwo {α : Type} (F : List D → List D → Res α) (ma mk : En → Res (List D)) : En → Res α := mB ma fun ds => mB mk fun es _ => F ds es
theorem post_two {α β : Type} {R : RG α β} {K : PySem.W.Frag} {W : WX} {F : List D → List D → Res α} {ma mk : En → Res (List D)} {t tk : TA} {u : List V → List V → L2.St → Hp → (β → Hp → Prop) → Prop} {B0 H0 env σ B H B1 H1}
    (ha : Sim RA K W t ma) (hk : Sim RA K W tk mk) (I : SI K B0 H0 env σ B1 H1) (x0 : Xt B H B1 H1)
    (k : ∀ ds vs es zs B2 H2, SI K B0 H0 env σ B2 H2 → Xt B1 H1 B2 H2 → Reps K B2 ds vs → Reps K B2 es zs → Post R K W σ B H (F ds es) (u vs zs σ H2)) :
    Post R K W σ B H (mTwo F ma mk env) (fun Q => t σ H1 fun vs H2 => tk σ H2 fun zs H3 => u vs zs σ H3 Q) := by
  unfold mTwo mB
  cases e1 : ma env with
  | stuck => trivial
  | exc c fn fv => exact fun Q q => ha.exc I e1 fun od B' H' y w => q od B' H' (x0.trans y) w
  | ok ds =>
    show Post R K W σ B H ((mk env).bind fun es => F ds es) _
    cases e2 : mk env with
    | stuck => trivial
    | exc c fn fv => exact fun Q q => ha.ok I e1 fun vs B2 H2 y I2 r1 => hk.exc I2 e2 fun od B' H' z w => q od B' H' ((x0.trans y).trans z) w
    | ok es =>
      show Post R K W σ B H (F ds es) _
      have key : ∀ vs B2 H2 zs B3 H3, Xt B1 H1 B2 H2 → SI K B0 H0 env σ B2 H2 → RA K H1 B2 H2 ds vs → Xt B2 H2 B3 H3 → SI K B0 H0 env σ B3 H3 → RA K H2 B3 H3 es zs → Post R K W σ B H (F ds es) (u vs zs σ H3) := fun vs B2 H2 zs B3 H3 y I2 r1 z I3 r2 => k ds vs es zs B3 H3 I3 (y.trans z) (Reps.mono z.b r1) r2
      cases e3 : F ds es with
      | stuck => trivial
      | exc c2 fn fv => exact fun Q q => ha.ok I e1 fun vs B2 H2 y I2 r1 => hk.ok I2 e2 fun zs B3 H3 z I3 r2 => by have w := key vs B2 H2 zs B3 H3 y I2 r1 z I3 r2; rw [e3] at w; exact w Q q
      | ok a => exact fun Q q => ha.ok I e1 fun vs B2 H2 y I2 r1 => hk.ok I2 e2 fun zs B3 H3 z I3 r2 => by have w := key vs B2 H2 zs B3 H3 y I2 r1 z I3 r2; rw [e3] at w; exact w Q q
theorem sim_nil {K W} : Sim RA K W tNil mNil := fun _ _ _ _ B H I Q q => q [] B H (Xt.refl I.xs) repsNil

/-! ### C(e, .., k = v, ..) -/
def mMake (G : List D → Res Ob) (n m : Nat) (sp : List Sl) (dd md : List D) (ma mk : En → Res (List D)) : En → Res Ob := mTwo (fun ds es => if ds.length = n ∧ es.length = m then G (arr sp ds dd md es) else .stuck) ma mk
section
variable {X : Cx} {W : WX} {k n : Nat} {f : Addr} {fd : FuncData} {ps ks : List Str} {x : Str} {p pos : Pos} {e : Expr} {es : List Expr} {kws : List Keyword} {ma mk : En → Res (List D)} {G : List D → Res Ob} {sp : List Sl} {dd md : List D}
theorem post_make {K : PySem.W.Frag} {W : WX} {σ B H B2 H2} {c : Str} {ds es : List D} {vs zs dvs mvs : List V} (s2 : Ex B2 H2) (x0 : Xt B H B2 H2) (r1 : Reps K B2 ds vs) (r2 : Reps K B2 es zs) (h1 : Reps K B2 dd dvs) (h2 : Reps K B2 md mvs) {m : Nat} :
    Post RFO K W σ B H (if ds.length = n ∧ es.length = m then G (arr sp ds dd md es) else .stuck) (fun Q => vs.length = n ∧ zs.length = m ∧ ∀ x dx, H2 x = none → H2 dx = none → dx ≠ x →
      spI K c G (arr (.p 0 :: sp.map Sl.up) (.ref x :: vs) dvs mvs zs) (upd (upd H2 dx (.own x)) x (.ins (He.ga K c) dx [])) (fun v H3 => v = .non ∧ Q (.ref x) H3) (WE W σ)) := by
  by_cases hl : ds.length = n ∧ es.length = m
  · rw [if_pos hl]
    have ra := reps_arr r1 h1 h2 r2 sp
    have l1 : vs.length = n := by rw [← hl.1]; exact (Reps.length r1).symm
    have l2 : zs.length = m := by rw [← hl.2]; exact (Reps.length r2).symm
    cases e : G (arr sp ds dd md es) with
    | stuck => trivial
    | ok o =>
      refine fun Q q => ⟨l1, l2, fun x dx a1 a2 a3 => ⟨B2, H2, arr sp ds dd md es, arr sp vs dvs mvs zs, x, dx, arr_up .., rfl, a1, a2, a3, s2, ra, ?_⟩⟩
      rw [e]
      exact fun ho B' H' y b1 b2 b3 => ⟨rfl, q _ B' H' (x0.trans y) ⟨x, ho, rfl, x0.h.free a1, b1, b2, b3⟩⟩
    | exc c2 fn fv =>
      refine fun Q q => ⟨l1, l2, fun x dx a1 a2 a3 => ⟨B2, H2, arr sp ds dd md es, arr sp vs dvs mvs zs, x, dx, arr_up .., rfl, a1, a2, a3, s2, ra, ?_⟩⟩
      rw [e]
      exact fun od B' H' y w => q od B' H' (x0.trans y) w
  · rw [if_neg hl]
    trivial
theorem se_make {c : Str} (M : Mk X.K (He.ga X.K c) f) (Fn : FnOk X.prog X.w X.K X.mg X.base (L2.CX X.prog X.w) k f fd ps (spI X.K c G)) (hr : Room (k + 1) X.A) (tk : Takes X W) (hm : X.mg x = some (.ref (He.ga X.K c))) (hb : KB X.K fd ps (n + 1) ks (.p 0 :: sp.map Sl.up) dd md)
    (ha : SA X W (e :: es) ma) (hkw : SK X W kws mk) (hg : Gl X x := by rfl) (hall : (backToKw pos (keywordEach kws X.env)).all (·.1.isSome) = true := by rfl) (hks : (backToKw pos (keywordEach kws X.env)).filterMap (·.1) = ks := by rfl)
    (hdb : (x == ("__debug__" : Str)) = false := by decide) (he : starEach (e :: es) X.env = (false, eval e X.env) :: starEach es X.env := by rfl)
    (hpl : ((backTo pos (starEach (e :: es) X.env)).any (·.1) || (backToKw pos (keywordEach kws X.env)).any (·.1.isNone)) = false := by rfl) :
    SE X W RFO (.Call (.Name x p) (e :: es) kws pos) (mMake G n ks.length sp dd md ma mk) := by
  obtain ⟨t, pa, s⟩ := ha.ex
  obtain ⟨t2, pk, s2⟩ := hkw.ex
  obtain ⟨g, dvs, mvs, hb, h1, h2⟩ := hb.ex
  refine ⟨_, pe_makeSK M Fn hr hg hm hb (fun σ => passAt tk σ) pa pk hall hks hdb he hpl, fun B0 H0 env σ B H I => ?_⟩
  exact post_two (R := RFO) (u := fun vs zs σ H2 (Q : V → Hp → Prop) => vs.length = n ∧ zs.length = ks.length ∧ ∀ x dx, H2 x = none → H2 dx = none → dx ≠ x → spI X.K c G (arr (.p 0 :: sp.map Sl.up) (.ref x :: vs) dvs mvs zs) (upd (upd H2 dx (.own x)) x (.ins (He.ga X.K c) dx [])) (fun v H3 => v = V.non ∧ Q (V.ref x) H3) (WE W σ))
    s s2 I (Xt.refl I.xs) fun ds vs es zs B2 H2 I2 y r1 r2 => post_make I2.xs y r1 r2 (h1 _) (h2 _)
theorem se_make0 {c : Str} (M : Mk X.K (He.ga X.K c) f) (Fn : FnOk X.prog X.w X.K X.mg X.base (L2.CX X.prog X.w) k f fd ps (spI X.K c G)) (hr : Room (k + 1) X.A) (tk : Takes X W) (hm : X.mg x = some (.ref (He.ga X.K c))) (hb : KB X.K fd ps 1 ks (.p 0 :: sp.map Sl.up) dd md)
    (hkw : SK X W kws mk) (hg : Gl X x := by rfl) (hall : (backToKw pos (keywordEach kws X.env)).all (·.1.isSome) = true := by rfl) (hks : (backToKw pos (keywordEach kws X.env)).filterMap (·.1) = ks := by rfl)
    (hdb : (x == ("__debug__" : Str)) = false := by decide) (hpl : ((backTo pos (starEach [] X.env)).any (·.1) || (backToKw pos (keywordEach kws X.env)).any (·.1.isNone)) = false := by rfl) :
    SE X W RFO (.Call (.Name x p) [] kws pos) (mMake G 0 ks.length sp dd md mNil mk) := by
  obtain ⟨t2, pk, s2⟩ := hkw.ex
  obtain ⟨g, dvs, mvs, hb, h1, h2⟩ := hb.ex
  refine ⟨_, pe_makeSK0 M Fn hr hg hm hb (fun σ => passAt tk σ) pk hall hks hdb hpl, fun B0 H0 env σ B H I => ?_⟩
  exact post_two (R := RFO) (u := fun vs zs σ H2 (Q : V → Hp → Prop) => vs.length = 0 ∧ zs.length = ks.length ∧ ∀ x dx, H2 x = none → H2 dx = none → dx ≠ x → spI X.K c G (arr (.p 0 :: sp.map Sl.up) (.ref x :: vs) dvs mvs zs) (upd (upd H2 dx (.own x)) x (.ins (He.ga X.K c) dx [])) (fun v H3 => v = V.non ∧ Q (V.ref x) H3) (WE W σ))
    sim_nil s2 I (Xt.refl I.xs) fun ds vs es zs B2 H2 I2 y r1 r2 => post_make I2.xs y r1 r2 (h1 _) (h2 _)
end
/-! ### o.m(e, .., k = v, ..) -/
def isOb (c mn : Str) : D → Bool
  | .obj c' fn _ => c' == c && !fn.contains mn
  | _ => false
def mOMeth {α : Type} (c mn : Str) (F : List D → Res α) (n m : Nat) (sp : List Sl) (dd md : List D) (mo : En → Res D) (ma mk : En → Res (List D)) : En → Res α := mB mo fun d => if isOb c mn d then mTwo (fun ds es => if ds.length = n ∧ es.length = m then F (arr sp (d :: ds) dd md es) else .stuck) ma mk else fun _ => .stuck
theorem not_field {mn : Str} {fn : List Str} {vs : List V} (h : fn.contains mn = false) : (fn.zip vs).lookup mn = none := by
  induction fn generalizing vs with
  | nil => simp
  | cons g gs ih =>
    cases vs with
    | nil => simp
    | cons v vs =>
      have h' : (mn == g) = false ∧ gs.contains mn = false := by
        rw [List.contains_cons] at h
        exact Bool.or_eq_false_iff.mp h
      rw [List.zip_cons_cons, List.lookup_cons, h'.1]
      exact ih h'.2
theorem isOb_rep {K B d v c mn} (r : Rep K B d v) (h : isOb c mn d = true) : ∃ a dx fs, v = .ref a ∧ B a = some (.ins (He.ga K c) dx fs) ∧ fs.lookup mn = none := by
  cases d with
  | obj c' fn fv =>
    have h' : (c' == c && !fn.contains mn) = true := h
    have h2 := Bool.and_eq_true_iff.mp h'
    have e := eq_of_beq h2.1
    subst e
    simp only [Rep] at r
    obtain ⟨a, dx, vs, e1, h3, _, _⟩ := r
    exact ⟨a, dx, _, e1, h3, not_field (by simpa using h2.2)⟩
  | _ => cases h
section
variable {X : Cx} {W : WX} {k n : Nat} {f : Addr} {fd : FuncData} {ps ks : List Str} {c mn : Str} {apos pos : Pos} {o e : Expr} {es : List Expr} {kws : List Keyword} {mo : En → Res D} {ma mk : En → Res (List D)} {F : List D → Res D} {G : List D → Res Ob} {sp : List Sl} {dd md : List D} {pl : Sem Bool}
theorem sim_om {α : Type} {R : RG α V} {K : PySem.W.Frag} {W : WX} {F : List D → Res α} {m : Nat} {to : TE} {t tk : TA} {dvs mvs : List V} {S : List V → L2.St → Hp → (V → Hp → Prop) → Prop} (so : Sim RP K W to mo) (s : Sim RA K W t ma) (s2 : Sim RA K W tk mk) (h1 : ∀ H, Reps K H dd dvs) (h2 : ∀ H, Reps K H md mvs)
    (post : ∀ {σ B H B1 H1 ds vs}, Ex B1 H1 → Xt B H B1 H1 → Reps K B1 ds vs → Post R K W σ B H (F ds) (S vs σ H1)) :
    Sim R K W (fun σ H Q => to σ H fun x H1 => ∃ a dx fs, x = .ref a ∧ H1 a = some (.ins (He.ga K c) dx fs) ∧ fs.lookup mn = none ∧ t σ H1 fun vs H2 => tk σ H2 fun zs H3 => vs.length = n ∧ zs.length = m ∧ S (arr sp (x :: vs) dvs mvs zs) σ H3 Q) (mOMeth c mn F n m sp dd md mo ma mk) := by
  unfold mOMeth
  refine Sim.bind (R := RP) (S := R) (u := fun x σ H1 Q => ∃ a dx fs, x = .ref a ∧ H1 a = some (.ins (He.ga K c) dx fs) ∧ fs.lookup mn = none ∧ t σ H1 fun vs H2 => tk σ H2 fun zs H3 => vs.length = n ∧ zs.length = m ∧ S (arr sp (x :: vs) dvs mvs zs) σ H3 Q) so fun B0 H0 env σ B H d v B1 H1 I x r => ?_
  by_cases hc : isOb c mn d = true
  · rw [if_pos hc]
    obtain ⟨a, dx, fs, ev, h3, h4⟩ := isOb_rep r hc
    refine Post.wrap (T := fun Q => t σ H1 fun vs H2 => tk σ H2 fun zs H3 => vs.length = n ∧ zs.length = m ∧ S (arr sp (v :: vs) dvs mvs zs) σ H3 Q) ?_ fun Q q => ⟨a, dx, fs, ev, I.xs _ _ h3, h4, q⟩
    refine post_two (u := fun vs zs σ H3 Q => vs.length = n ∧ zs.length = m ∧ S (arr sp (v :: vs) dvs mvs zs) σ H3 Q) s s2 I x fun ds vs es zs B2 H2 I2 y r1 r2 => ?_
    by_cases hl : ds.length = n ∧ es.length = m
    · rw [if_pos hl]
      have l1 : vs.length = n := by rw [← hl.1]; exact (Reps.length r1).symm
      have l2 : zs.length = m := by rw [← hl.2]; exact (Reps.length r2).symm
      have r3 : Reps K B2 (d :: ds) (v :: vs) := by simp only [Reps]; exact ⟨v, vs, rfl, r.mono y.b, r1⟩
      exact Post.wrap (post I2.xs (x.trans y) (reps_arr r3 (h1 _) (h2 _) r2 sp)) fun Q q => ⟨l1, l2, q⟩
    · rw [if_neg hl]
      trivial
  · rw [if_neg hc]
    trivial
theorem se_om (Cl : Cls X.K (He.ga X.K c)) (hmt : Meth X.K (He.ga X.K c) mn f) (Fn : FnOk X.prog X.w X.K X.mg X.base (L2.CX X.prog X.w) k f fd ps (spD X.K F)) (hr : Room k X.A) (tk : Takes X W) (hb : KB X.K fd ps (n + 1) ks sp dd md)
    (ho : SE X W RP o mo) (ha : SA X W (e :: es) ma) (hkw : SK X W kws mk) (hall : (backToKw pos (keywordEach kws X.env)).all (·.1.isSome) = true := by rfl) (hks : (backToKw pos (keywordEach kws X.env)).filterMap (·.1) = ks := by rfl)
    (hst : starEach (e :: es) X.env = (false, eval e X.env) :: starEach es X.env := by rfl)
    (hpl : ((backTo pos (starEach (e :: es) X.env)).any (·.1) || (backToKw pos (keywordEach kws X.env)).any (·.1.isNone)) = false := by rfl)
    (ht : eval (.Call (.Attribute o mn apos) (e :: es) kws pos) X.env = (do
      let ov ← eval o X.env
      standAt apos.atName
      let (f, first) ← holding [ov] (getMethod ov mn pl)
      callWith pos f first (backTo pos (starEach (e :: es) X.env)) (backToKw pos (keywordEach kws X.env))) := by rfl) :
    SE X W RP (.Call (.Attribute o mn apos) (e :: es) kws pos) (mOMeth c mn F n ks.length sp dd md mo ma mk) := by
  obtain ⟨to, po, so⟩ := ho.ex
  obtain ⟨t, pa, s⟩ := ha.ex
  obtain ⟨t2, pk, s2⟩ := hkw.ex
  obtain ⟨g, dvs, mvs, hb, h1, h2⟩ := hb.ex
  refine ⟨_, pe_methSK (pl := pl) po Cl hmt Fn hr hb (fun σ => passAt tk σ) pa pk hall hks hst hpl ht, ?_⟩
  exact sim_om (S := fun vs σ H Q => spD X.K F vs H Q (WE W σ)) so s s2 h1 h2 fun e x r => post_D e x r
theorem se_om0 (Cl : Cls X.K (He.ga X.K c)) (hmt : Meth X.K (He.ga X.K c) mn f) (Fn : FnOk X.prog X.w X.K X.mg X.base (L2.CX X.prog X.w) k f fd ps (spD X.K F)) (hr : Room k X.A) (tk : Takes X W) (hb : KB X.K fd ps 1 ks sp dd md)
    (ho : SE X W RP o mo) (hkw : SK X W kws mk) (hall : (backToKw pos (keywordEach kws X.env)).all (·.1.isSome) = true := by rfl) (hks : (backToKw pos (keywordEach kws X.env)).filterMap (·.1) = ks := by rfl)
    (hpl : ((backTo pos (starEach [] X.env)).any (·.1) || (backToKw pos (keywordEach kws X.env)).any (·.1.isNone)) = false := by rfl)
    (ht : eval (.Call (.Attribute o mn apos) [] kws pos) X.env = (do
      let ov ← eval o X.env
      standAt apos.atName
      let (f, first) ← holding [ov] (getMethod ov mn pl)
      callWith pos f first (backTo pos (starEach [] X.env)) (backToKw pos (keywordEach kws X.env))) := by rfl) :
    SE X W RP (.Call (.Attribute o mn apos) [] kws pos) (mOMeth c mn F 0 ks.length sp dd md mo mNil mk) := by
  obtain ⟨to, po, so⟩ := ho.ex
  obtain ⟨t2, pk, s2⟩ := hkw.ex
  obtain ⟨g, dvs, mvs, hb, h1, h2⟩ := hb.ex
  refine ⟨_, pe_methSK0 (pl := pl) po Cl hmt Fn hr hb (fun σ => passAt tk σ) pk hall hks hpl ht, ?_⟩
  exact sim_om (S := fun vs σ H Q => spD X.K F vs H Q (WE W σ)) so sim_nil s2 h1 h2 fun e x r => post_D e x r
theorem se_omF (Cl : Cls X.K (He.ga X.K c)) (hmt : Meth X.K (He.ga X.K c) mn f) (Fn : FnOk X.prog X.w X.K X.mg X.base (L2.CX X.prog X.w) k f fd ps (spF X.K G)) (hr : Room k X.A) (tk : Takes X W) (hb : KB X.K fd ps (n + 1) ks sp dd md)
    (ho : SE X W RP o mo) (ha : SA X W (e :: es) ma) (hkw : SK X W kws mk) (hall : (backToKw pos (keywordEach kws X.env)).all (·.1.isSome) = true := by rfl) (hks : (backToKw pos (keywordEach kws X.env)).filterMap (·.1) = ks := by rfl)
    (hst : starEach (e :: es) X.env = (false, eval e X.env) :: starEach es X.env := by rfl)
    (hpl : ((backTo pos (starEach (e :: es) X.env)).any (·.1) || (backToKw pos (keywordEach kws X.env)).any (·.1.isNone)) = false := by rfl)
    (ht : eval (.Call (.Attribute o mn apos) (e :: es) kws pos) X.env = (do
      let ov ← eval o X.env
      standAt apos.atName
      let (f, first) ← holding [ov] (getMethod ov mn pl)
      callWith pos f first (backTo pos (starEach (e :: es) X.env)) (backToKw pos (keywordEach kws X.env))) := by rfl) :
    SE X W RFO (.Call (.Attribute o mn apos) (e :: es) kws pos) (mOMeth c mn G n ks.length sp dd md mo ma mk) := by
  obtain ⟨to, po, so⟩ := ho.ex
  obtain ⟨t, pa, s⟩ := ha.ex
  obtain ⟨t2, pk, s2⟩ := hkw.ex
  obtain ⟨g, dvs, mvs, hb, h1, h2⟩ := hb.ex
  refine ⟨_, pe_methSK (pl := pl) po Cl hmt Fn hr hb (fun σ => passAt tk σ) pa pk hall hks hst hpl ht, ?_⟩
  exact sim_om (S := fun vs σ H Q => spF X.K G vs H Q (WE W σ)) so s s2 h1 h2 fun e x r => post_F e x r
end
end Sm

set_option autoImplicit true
set_option Elab.async false
set_option linter.all false
set_option maxRecDepth 100000
set_option maxHeartbeats 4000000
/-! Dicts with keys that are ints or texts: in, d[k], .get, {.. for ..}. -/
namespace Sm
open PySem PySem.Spec PyProof.Rows L2
theorem units65 {k : Nat} {A : Around} (r : Room k A) : A.units + 65 < cLine := by have := r.un; omega
theorem units64 {k : Nat} {A : Around} (r : Room k A) : A.units + 64 < cLine := by have := r.un; omega
theorem units1 {k : Nat} {A : Around} (r : Room k A) : A.units + 1 < cLine := by have := r.un; omega
def keyD : D → Option Key
  | .int i => some (.inl i)
  | .str x => some (.inr x)
  | _ => none
theorem keyD_rep {K H d v k} (r : Rep K H d v) (h : keyD d = some k) : v = kV k := by
  cases d with
  | int i => cases h; exact rep_int r
  | str i => cases h; exact rep_str r
  | _ => cases h
def getD' (k : Key) : List Key → List D → Option D
  | g :: gs, d :: ds => if g = k then some d else getD' k gs ds
  | _, _ => none
theorem getD_rep {K B k} : ∀ {ks : List Key} {ds : List D} {vs : List V}, ks.length = vs.length → Reps K B ds vs → (∃ d v, getD' k ks ds = some d ∧ valV (ks.zip vs) k = some v ∧ Rep K B d v) ∨ (getD' k ks ds = none ∧ valV (ks.zip vs) k = none)
  | [], ds, vs, hl, r => .inr ⟨rfl, rfl⟩
  | g :: gs, [], vs, hl, r => by
    simp only [Reps] at r
    subst r
    cases hl
  | g :: gs, e :: es, vs, hl, r => by
    simp only [Reps] at r
    obtain ⟨v, q, ev, h1, h2⟩ := r
    subst ev
    have hl' : gs.length = q.length := by simpa using hl
    rw [List.zip_cons_cons]
    show (∃ d v', (if g = k then some e else getD' k gs es) = some d ∧ _ ∧ _) ∨ ((if g = k then some e else getD' k gs es) = none ∧ _)
    by_cases c : g = k
    · rw [if_pos c]
      exact .inl ⟨e, v, rfl, valV_pos c, h1⟩
    · rw [if_neg c, valV_neg c]
      exact getD_rep hl' h2
section
variable {X : Cx}
def rDIn : R2 := fun y x H Q => ∃ a o, x = .ref a ∧ DGet H a y o ∧ Q (.bl o.isSome) H
def rDNi : R2 := fun y x H Q => ∃ a o, x = .ref a ∧ DGet H a y o ∧ Q (.bl (!o.isSome)) H
theorem op_din (hu : X.A.units + 1 < cLine) : OpR X (compareOp .In) rDIn := by
  intro pins s σ H y x u v Q I ry rx h
  obtain ⟨a, o, rfl, g, q⟩ := h
  cases (show v = Value.ref a from rx)
  exact d_in hu I g ry fun s' I' => ⟨.bl o.isSome, H, I', rfl, q⟩
theorem op_dni (hu : X.A.units + 1 < cLine) : OpR X (compareOp .NotIn) rDNi := by
  intro pins s σ H y x u v Q I ry rx h
  obtain ⟨a, o, rfl, g, q⟩ := h
  cases (show v = Value.ref a from rx)
  exact d_notIn hu I g ry fun s' I' => ⟨.bl (!o.isSome), H, I', rfl, q⟩
end
def inXB (d e : D) : Option Bool := match e with
  | .dct ks ds => (keyD d).map fun k => (getD' k ks ds).isSome
  | _ => inFB d e
def inX (d e : D) : Option D := (inXB d e).map .bl
def niX (d e : D) : Option D := (inXB d e).map fun b => .bl (!b)
def rInX (K : PySem.W.Frag) : R2 := fun x y H Q => rInF K x y H Q ∨ rDIn x y H Q
def rNiX (K : PySem.W.Frag) : R2 := fun x y H Q => rNiF K x y H Q ∨ rDNi x y H Q
theorem op_inX {X : Cx} (hu : X.A.units + 1 < cLine) : OpR X (compareOp .In) (rInX X.K) := op_inF.or (op_din hu)
theorem op_niX {X : Cx} (hu : X.A.units + 1 < cLine) : OpR X (compareOp .NotIn) (rNiX X.K) := op_niF.or (op_dni hu)
theorem dget_rep {K H d v ks ds y k} (r : Rep K H (.dct ks ds) v) (ry : Rep K H d y) (hk : keyD d = some k) : ∃ a o, v = .ref a ∧ DGet H a y o ∧ ((∃ e w, getD' k ks ds = some e ∧ o = some w ∧ Rep K H e w) ∨ (getD' k ks ds = none ∧ o = none)) := by
  simp only [Rep] at r
  obtain ⟨a, vs, e1, h1, h2, h3⟩ := r
  have ey := keyD_rep ry hk
  subst ey
  refine ⟨a, valV (ks.zip vs) k, e1, DGet.k h1, ?_⟩
  rcases getD_rep (k := k) h2 h3 with ⟨d, w, a1, a2, a3⟩ | ⟨a1, a2⟩
  · exact .inl ⟨d, w, a1, a2, a3⟩
  · exact .inr ⟨a1, a2⟩
theorem sr_inX {K} : SR2 RP K (rInX K) inX := by
  intro B H x y d e z s rx ry hf Q q
  cases e with
  | dct ks ds =>
    have hf' : ((keyD d).map fun k => (getD' k ks ds).isSome).map D.bl = some z := hf
    cases hk : keyD d with
    | none => rw [hk] at hf'; cases hf'
    | some k =>
      rw [hk] at hf'
      cases hf'
      obtain ⟨a, o, e1, g, h⟩ := dget_rep (ry.rep s) (rx.rep s) hk
      refine .inr ⟨a, o, e1, g, q _ B H (Xt.refl s) ?_⟩
      show RP K H B H (D.bl (getD' k ks ds).isSome) (V.bl o.isSome)
      rcases h with ⟨e, w, a1, a2, _⟩ | ⟨a1, a2⟩
      · rw [a1, a2]; rfl
      · rw [a1, a2]; rfl
  | _ => exact .inl (sr_inF B H x y d _ z s rx ry hf Q q)
theorem sr_niX {K} : SR2 RP K (rNiX K) niX := by
  intro B H x y d e z s rx ry hf Q q
  cases e with
  | dct ks ds =>
    have hf' : ((keyD d).map fun k => (getD' k ks ds).isSome).map (fun b => D.bl (!b)) = some z := hf
    cases hk : keyD d with
    | none => rw [hk] at hf'; cases hf'
    | some k =>
      rw [hk] at hf'
      cases hf'
      obtain ⟨a, o, e1, g, h⟩ := dget_rep (ry.rep s) (rx.rep s) hk
      refine .inr ⟨a, o, e1, g, q _ B H (Xt.refl s) ?_⟩
      show RP K H B H (D.bl (!(getD' k ks ds).isSome)) (V.bl (!o.isSome))
      rcases h with ⟨e, w, a1, a2, _⟩ | ⟨a1, a2⟩
      · rw [a1, a2]; rfl
      · rw [a1, a2]; rfl
  | _ => exact .inl (sr_niF B H x y d _ z s rx ry hf Q q)
def dgetD (d k : D) : Option D := match d with
  | .dct ks ds => (keyD k).bind fun k => getD' k ks ds
  | _ => none
section
variable {X : Cx} {W : WX} {o i : Expr} {pos : Pos} {mo mi : En → Res D}
theorem se_dget (hu : X.A.units + 1 < cLine) (ho : SE X W RP o mo) (hi : SE X W RP i mi) (hs : NoSl i := by exact fun _ _ => rfl) : SE X W RP (.Subscript o i pos) (mOp dgetD mo mi) := by
  obtain ⟨to, po, so⟩ := ho.ex
  obtain ⟨ti, pi, si⟩ := hi.ex
  refine ⟨_, pe_dget hu po pi hs, ?_⟩
  have hr : SR2 RP X.K (fun x y H Q => ∃ a v, x = .ref a ∧ DGet H a y (some v) ∧ Q v H) dgetD := by
    intro B H x y d e z s rx ry hf Q q
    cases d with
    | dct ks ds =>
      have hf' : ((keyD e).bind fun k => getD' k ks ds) = some z := hf
      cases hk : keyD e with
      | none => rw [hk] at hf'; cases hf'
      | some k =>
        rw [hk] at hf'
        have rx0 := rx.stay fun _ z => nomatch z
        have ry0 := ry.stay fun xs z => by subst z; cases hk
        obtain ⟨a, o, e1, g, h⟩ := dget_rep rx0 ry0 hk
        have hf2 : getD' k ks ds = some z := hf'
        rcases h with ⟨e', w, a1, a2, a3⟩ | ⟨a1, a2⟩
        · rw [hf2] at a1
          cases a1
          subst a2
          refine ⟨a, w, e1, ?_, q w B H (Xt.refl s) a3⟩
          rcases g with ⟨kvs, k', h1, h2, h3⟩ | ⟨kvs, k', b, h1, h2, h3, h4⟩
          · exact .inl ⟨kvs, k', s.rd h1, h2, h3⟩
          · exact .inr ⟨kvs, k', b, s.rd h1, h2, s _ _ h3, h4⟩
        · rw [hf2] at a1
          cases a1
    | _ => cases hf
  exact sim_op late_P hr so.pt si.pt
end
end Sm

set_option autoImplicit true
set_option Elab.async false
set_option linter.all false
set_option maxRecDepth 100000
set_option maxHeartbeats 4000000
/-! {k: v for ..} -/
namespace Sm
open PySem PySem.Spec PyProof.Rows L2

def hasK (k : Key) (ks : List Key) : Bool := ks.any fun g => decide (g = k)
def putKs (k : Key) (ks : List Key) : List Key := if hasK k ks then ks else ks ++ [k]
def replK {α : Type} (k : Key) (d : α) : List Key → List α → List α
  | g :: gs, e :: es => (if g = k then d else e) :: replK k d gs es
  | _, _ => []
def putDs {α : Type} (k : Key) (d : α) (ks : List Key) (ds : List α) : List α := if hasK k ks then replK k d ks ds else ds ++ [d]
theorem any_zip {k : Key} : ∀ {ks : List Key} {vs : List V}, ks.length = vs.length → ((ks.zip vs).any fun kv => decide (kv.1 = k)) = hasK k ks
  | [], vs, h => rfl
  | g :: gs, [], h => by cases h
  | g :: gs, v :: vs, h => by
    rw [List.zip_cons_cons, List.any_cons, any_zip (ks := gs) (vs := vs) (by simpa using h)]
    rfl
theorem repl_zip {k : Key} {v : V} : ∀ {ks : List Key} {vs : List V}, ks.length = vs.length → (ks.zip vs).map (fun kv => if kv.1 = k then (kv.1, v) else kv) = ks.zip (replK k v ks vs) ∧ (replK k v ks vs).length = vs.length
  | [], vs, h => by
    cases vs with
    | nil => exact ⟨rfl, rfl⟩
    | cons _ _ => cases h
  | g :: gs, [], h => by cases h
  | g :: gs, w :: vs, h => by
    obtain ⟨i1, i2⟩ := repl_zip (k := k) (v := v) (ks := gs) (vs := vs) (by simpa using h)
    refine ⟨?_, ?_⟩
    · rw [List.zip_cons_cons, List.map_cons, i1]
      show (if g = k then (g, v) else (g, w)) :: _ = (g, if g = k then v else w) :: _
      by_cases c : g = k
      · rw [if_pos c, if_pos c]; rfl
      · rw [if_neg c, if_neg c]; rfl
    · show (replK k v gs vs).length + 1 = vs.length + 1
      rw [i2]
theorem repl_rep {K B k d v} (rd : Rep K B d v) : ∀ {ks : List Key} {ds : List D} {vs : List V}, ks.length = vs.length → Reps K B ds vs → Reps K B (replK k d ks ds) (replK k v ks vs)
  | [], ds, vs, h, r => by simp [replK, Reps]
  | g :: gs, [], vs, h, r => by simp only [Reps] at r; subst r; cases h
  | g :: gs, e :: es, vs, h, r => by
    simp only [Reps] at r
    obtain ⟨w, q, ev, h1, h2⟩ := r
    subst ev
    have ih := repl_rep (k := k) rd (ks := gs) (by simpa using h) h2
    show Reps K B ((if g = k then d else e) :: replK k d gs es) ((if g = k then v else w) :: replK k v gs q)
    simp only [Reps]
    refine ⟨_, _, rfl, ?_, ih⟩
    by_cases c : g = k
    · rw [if_pos c, if_pos c]; exact rd
    · rw [if_neg c, if_neg c]; exact h1
theorem putK_rep {K B k d v} (rd : Rep K B d v) {ks : List Key} {ds : List D} {vs : List V} (hl : ks.length = vs.length) (r : Reps K B ds vs) :
    ∃ ws, putK (ks.zip vs) k v = (putKs k ks).zip ws ∧ (putKs k ks).length = ws.length ∧ Reps K B (putDs k d ks ds) ws ∧ ws.length ≤ vs.length + 1 := by
  unfold putK putKs putDs
  rw [any_zip hl]
  by_cases c : hasK k ks = true
  · rw [if_pos c, if_pos c, if_pos c]
    obtain ⟨i1, i2⟩ := repl_zip (k := k) (v := v) hl
    exact ⟨_, i1, by rw [i2]; exact hl, repl_rep rd hl r, by rw [i2]; omega⟩
  · rw [if_neg c, if_neg c, if_neg c]
    refine ⟨vs ++ [v], ?_, by rw [List.length_append, List.length_append, hl]; rfl, r.append (reps_one rd), by rw [List.length_append]; simp⟩
    rw [List.zip_append hl]
    rfl
/-- the dict so far, turn by turn -/
def compD (mt : En → Res Bool) (mk mv : En → Res D) (env : En) : List (En → Option En) → List Key → List D → Res Ob
  | [], ks, ds => .ok (.dct ks ds)
  | b :: bs, ks, ds => match b env with
    | none => .stuck
    | some env1 => match mt env1 with
      | .ok true => (match mk env1 with
        | .ok y => (match keyD y, mv env1 with
          | some k, .ok d => compD mt mk mv env bs (putKs k ks) (putDs k d ks ds)
          | _, _ => .stuck)
        | _ => .stuck)
      | .ok false => compD mt mk mv env bs ks ds
      | _ => .stuck
theorem compD_noexc {mt mk mv env} : ∀ {bs : List (En → Option En)} {ks ds c fn fv}, compD mt mk mv env bs ks ds ≠ .exc c fn fv
  | [], _, _, _, _, _, h => by cases h
  | b :: bs, ks, ds, c, fn, fv, h => by
    unfold compD at h
    cases e1 : b env with
    | none => simp [e1] at h
    | some env1 =>
      simp only [e1] at h
      cases e2 : mt env1 with
      | stuck => simp [e2] at h
      | exc _ _ _ => simp [e2] at h
      | ok k =>
        simp only [e2] at h
        cases k with
        | false => exact compD_noexc h
        | true =>
          simp only at h
          cases e3 : mk env1 with
          | stuck => simp [e3] at h
          | exc _ _ _ => simp [e3] at h
          | ok y =>
            simp only [e3] at h
            cases e4 : keyD y with
            | none => simp [e4] at h
            | some k =>
              cases e5 : mv env1 with
              | stuck => simp [e4, e5] at h
              | exc _ _ _ => simp [e4, e5] at h
              | ok d =>
                simp only [e4, e5] at h
                exact compD_noexc h
def mDComp (mi : En → Res (List (En → Option En))) (vs : List Nat) (mt : En → Res Bool) (mk mv : En → Res D) : En → Res Ob := mB mi fun bs env => if szB bs.length then compD mt mk mv (wipeE env vs) bs [] [] else .stuck
theorem sim_dcomp {K : PySem.W.Frag} {W : WX} {wi : TI} {g : TG} {sl vs : List Nat} {tt : TT} {tk tv : TE} {mi : En → Res (List (En → Option En))} {mt : En → Res Bool} {mk mv : En → Res D} (hsl : ∀ i ∈ sl, i ∈ vs) (hi : Sim (RIT g sl) K W wi mi) (ht : Sim RB K W0 tt mt) (hk : Sim RP K W0 tk mk) (hv : Sim RP K W0 tv mv) :
    Sim RFO K W (tDc wi g tt tk tv vs) (mDComp mi vs mt mk mv) := by
  refine Sim.bind (R := RIT g sl) (S := RFO) (u := fun J σ H1 Q => ∀ D, H1 D = none → ∃ W : Nat → Nat → Hp → Prop, (∃ m, W 0 m (upd H1 D (.dK []))) ∧ ∀ i m H, W i m H →
    (J.stop i H ∧ Q (.ref D) H) ∨ (J.go i H ∧ ∃ Nx : Hp → Prop, (∀ H', Nx H' → ∃ m', m' < m ∧ W (i + 1) m' H') ∧ ∀ x H', J.yld i H x H' → g x (wipe σ vs) H' fun σ2 H2 => wipe σ2 vs = wipe σ vs ∧ tt σ2 H2 fun b H3 =>
      if b = true then tk σ2 H3 fun y H4 => tv σ2 H4 fun z H5 => ∃ kvs k, y = kV k ∧ H5 D = some (.dK kvs) ∧ kvs.length < sizeLine ∧ Nx (upd H5 D (.dK (putK kvs k z))) else Nx H3)) hi fun B0 H0 env σ B H bs J B1 H1 I x wk => ?_
  by_cases c : szB bs.length = true
  · rw [if_pos c]
    have hsz := szB_ok c
    cases e : compD mt mk mv (wipeE env vs) bs [] [] with
    | stuck => trivial
    | exc _ _ _ => exact absurd e compD_noexc
    | ok out =>
      refine fun Q q => fun Dl hD => ?_
      have bD : B1 Dl = none := I.xs.free hD
      refine ⟨fun i m H' => m = bs.length - i ∧ i ≤ bs.length ∧ ∃ B' ks acc ds, Ex B1 B' ∧ Ex H1 H' ∧ Ex B' H' ∧ (∀ a, B1 a = none → H1 a ≠ none → B' a = none) ∧ B' Dl = none ∧ H' Dl = some (.dK (List.zip ks acc)) ∧ ks.length = acc.length ∧ Reps K B' ds acc ∧ acc.length ≤ i ∧ compD mt mk mv (wipeE env vs) (bs.drop i) ks ds = .ok out,
        ⟨bs.length, by omega, Nat.zero_le _, B1, [], [], [], Ex.refl _, Ex.new hD, fun a u ea => by rw [upd_ne (ne_of_none (I.xs a u ea) hD)]; exact I.xs a u ea, fun _ h _ => h, bD, upd_same, rfl, repsNil, Nat.le_refl _, by rw [List.drop_zero]; exact e⟩, ?_⟩
      rintro i m H' ⟨rfl, hi', B', ks, acc, ds, b1, h1, s1, o1, d1, l1, k1, r1, z1, e1⟩
      by_cases hlt : i < bs.length
      · refine .inr ⟨wk.go i B' H' hlt b1 h1 s1, fun H2 => ∃ B2 ks acc ds, Ex B1 B2 ∧ Ex H1 H2 ∧ Ex B2 H2 ∧ (∀ a, B1 a = none → H1 a ≠ none → B2 a = none) ∧ B2 Dl = none ∧ H2 Dl = some (.dK (List.zip ks acc)) ∧ ks.length = acc.length ∧ Reps K B2 ds acc ∧ acc.length ≤ i + 1 ∧ compD mt mk mv (wipeE env vs) (bs.drop (i + 1)) ks ds = .ok out,
          fun H2 ⟨B2, ks, acc, ds, z⟩ => ⟨bs.length - (i + 1), by omega, rfl, hlt, B2, ks, acc, ds, z⟩, fun y H2 hy => ?_⟩
        have hg : bs[i]? = some bs[i] := List.getElem?_eq_getElem hlt
        rw [List.drop_eq_getElem_cons hlt] at e1
        unfold compD at e1
        cases e2 : bs[i] (wipeE env vs) with
        | none => simp [e2] at e1
        | some env1 =>
          simp only [e2] at e1
          have I' : SI K B0 H0 env σ B' H' := I.xt ⟨b1, h1, s1, o1⟩
          refine wk.step i bs[i] B0 H0 (wipeE env vs) env1 (wipe σ vs) B' H' hg e2 (I'.wipe vs) b1 h1 y H2 hy _ fun σ2 B2 H3 I2 x2 df => ?_
          refine ⟨by rw [df vs hsl, wipe_idem], ?_⟩
          have D2 : B2 Dl = none := x2.off Dl d1 (by rw [l1]; exact fun z => by cases z)
          cases e3 : mt env1 with
          | stuck => simp [e3] at e1
          | exc _ _ _ => simp [e3] at e1
          | ok k =>
            simp only [e3] at e1
            refine ht.ok I2 e3 fun b B3 H4 x3 I3 rb => ?_
            cases rb
            have D3 : B3 Dl = none := x3.off Dl D2 (by rw [x2.h _ _ l1]; exact fun z => by cases z)
            have Xa : Xt B' H' B3 H4 := x2.trans x3
            cases k with
            | false =>
              simp only at e1
              rw [if_neg Bool.false_ne_true]
              exact ⟨B3, ks, acc, ds, b1.trans Xa.b, h1.trans Xa.h, Xa.s, fun a g1 g2 => Xa.off a (o1 a g1 g2) (fun z => g2 (h1.free z)), D3, Xa.h _ _ l1, k1, r1.mono Xa.b, by omega, e1⟩
            | true =>
              simp only at e1
              rw [if_pos rfl]
              cases e4 : mk env1 with
              | stuck => simp [e4] at e1
              | exc _ _ _ => simp [e4] at e1
              | ok yk =>
                simp only [e4] at e1
                cases e5 : keyD yk with
                | none => simp [e5] at e1
                | some k =>
                  cases e6 : mv env1 with
                  | stuck => simp [e5, e6] at e1
                  | exc _ _ _ => simp [e5, e6] at e1
                  | ok d =>
                    simp only [e5, e6] at e1
                    refine hk.ok I3 e4 fun v B4 H5 x4 I4 rk => ?_
                    refine hv.ok I4 e6 fun w B5 H6 x5 I5 rd => ?_
                    have D4 : B4 Dl = none := x4.off Dl D3 (by rw [Xa.h _ _ l1]; exact fun z => by cases z)
                    have D5 : B5 Dl = none := x5.off Dl D4 (by rw [x4.h _ _ (Xa.h _ _ l1)]; exact fun z => by cases z)
                    have Xb : Xt B' H' B5 H6 := (Xa.trans x4).trans x5
                    obtain ⟨ws, p1, p2, p3, p4⟩ := putK_rep (k := k) rd k1 (r1.mono Xb.b)
                    refine ⟨_, k, keyD_rep rk e5, Xb.h _ _ l1, by rw [List.length_zip, k1, Nat.min_self]; omega, B5, putKs k ks, ws, putDs k d ks ds, b1.trans Xb.b, ?_, ?_, fun a g1 g2 => Xb.off a (o1 a g1 g2) (fun z => g2 (h1.free z)), D5, ?_, p2, p3, by omega, e1⟩
                    · exact (h1.trans Xb.h).mut hD
                    · intro a u ea
                      rw [upd_ne (ne_of_none ea D5)]
                      exact Xb.s a u ea
                    · rw [upd_same, p1]
      · have ei : i = bs.length := by omega
        subst ei
        refine .inl ⟨wk.stop B' H' b1 h1 s1, ?_⟩
        rw [List.drop_length] at e1
        cases e1
        refine q _ B' H' (x.trans ⟨b1, h1, s1, o1⟩) ⟨Dl, _, rfl, x.h.free hD, d1, l1, acc, rfl, k1, r1⟩
  · rw [if_neg c]
    trivial
structure SDc (X : Cx) (W : WX) (kx vx tg iter : Expr) (ifs : List Expr) (scope : Scope) (own : List (Str × Nat)) (m : En → Res Ob) : Prop where
  ex : ∃ wi g tt tk tv, PI X tg iter wi ∧ (∀ (s : Shared) (H : Hp) (C : Addr) (cl : List (Str × Addr)) (fp : List Addr), PG (X.blk s H scope (compEnvC scope cl C X.env) fp) tg g) ∧ (∀ (s : Shared) (H : Hp) (C : Addr) (cl : List (Str × Addr)) (fp : List Addr), PTs (X.blk s H scope (compEnvC scope cl C X.env) fp) ifs tt) ∧
    (∀ (s : Shared) (H : Hp) (C : Addr) (cl : List (Str × Addr)) (fp : List Addr), PE (X.blk s H scope (compEnvC scope cl C X.env) fp) kx tk) ∧ (∀ (s : Shared) (H : Hp) (C : Addr) (cl : List (Str × Addr)) (fp : List Addr), PE (X.blk s H scope (compEnvC scope cl C X.env) fp) vx tv) ∧ Sim RFO X.K W (tDc wi g tt tk tv (own.map (·.2))) m
section
variable {X : Cx} {W : WX} {kx vx tg iter : Expr} {ifs : List Expr} {scope : Scope} {own : List (Str × Nat)} {pos : Pos} {mi : En → Res (List (En → Option En))} {f : D → En → Option En} {sl : List Nat} {mk mv : En → Res D} {mt : En → Res Bool} {m : En → Res Ob}
theorem sdc (hi : SIcT X W tg iter f mi) (hg : ∀ (s : Shared) (H : Hp) (C : Addr) (cl : List (Str × Addr)) (fp : List Addr), STg (X.blk s H scope (compEnvC scope cl C X.env) fp) tg f sl) (hk : ∀ (s : Shared) (H : Hp) (C : Addr) (cl : List (Str × Addr)) (fp : List Addr), SE (X.blk s H scope (compEnvC scope cl C X.env) fp) W0 RP kx mk)
    (hv : ∀ (s : Shared) (H : Hp) (C : Addr) (cl : List (Str × Addr)) (fp : List Addr), SE (X.blk s H scope (compEnvC scope cl C X.env) fp) W0 RP vx mv) (hsl : ∀ i ∈ sl, i ∈ own.map (·.2) := by decide) : SDc X W kx vx tg iter [] scope own (mDComp mi (own.map (·.2)) (fun _ => .ok true) mk mv) := by
  obtain ⟨wi, pi, k⟩ := hi.ex
  exact ⟨wi, gcan X.K f sl, tYes, can RP X.K W0 mk, can RP X.K W0 mv, pi, fun s H C cl fp => (hg s H C cl fp).can, fun s H C cl fp => pts_nil, fun s H C cl fp => (hk s H C cl fp).can, fun s H C cl fp => (hv s H C cl fp).can,
    sim_dcomp hsl (k _ _ gcan_ok) (fun B0 H0 env σ B H I Q q => q true B H (Xt.refl I.xs) rfl) can_sim can_sim⟩
theorem sdc_if {cond : Expr} (hi : SIcT X W tg iter f mi) (hg : ∀ (s : Shared) (H : Hp) (C : Addr) (cl : List (Str × Addr)) (fp : List Addr), STg (X.blk s H scope (compEnvC scope cl C X.env) fp) tg f sl) (ht : ∀ (s : Shared) (H : Hp) (C : Addr) (cl : List (Str × Addr)) (fp : List Addr), ST (X.blk s H scope (compEnvC scope cl C X.env) fp) W0 cond mt) (hk : ∀ (s : Shared) (H : Hp) (C : Addr) (cl : List (Str × Addr)) (fp : List Addr), SE (X.blk s H scope (compEnvC scope cl C X.env) fp) W0 RP kx mk)
    (hv : ∀ (s : Shared) (H : Hp) (C : Addr) (cl : List (Str × Addr)) (fp : List Addr), SE (X.blk s H scope (compEnvC scope cl C X.env) fp) W0 RP vx mv) (hsl : ∀ i ∈ sl, i ∈ own.map (·.2) := by decide) : SDc X W kx vx tg iter [cond] scope own (mDComp mi (own.map (·.2)) mt mk mv) := by
  obtain ⟨wi, pi, k⟩ := hi.ex
  exact ⟨wi, gcan X.K f sl, can RB X.K W0 mt, can RP X.K W0 mk, can RP X.K W0 mv, pi, fun s H C cl fp => (hg s H C cl fp).can, fun s H C cl fp => pts_one (ht s H C cl fp).can, fun s H C cl fp => (hk s H C cl fp).can, fun s H C cl fp => (hv s H C cl fp).can,
    sim_dcomp hsl (k _ _ gcan_ok) can_sim can_sim can_sim⟩
theorem se_dc (h : SDc X W kx vx tg iter ifs scope own m) (hc : X.calm = true) (hN : X.N.Nodup) (ok : BlkOk X.N X.env.scope scope own) (hs : ∀ x, foldedSetIterable iter X.env x = pure x := by intro _; rfl) : SE X W RFO (.DictComp kx vx [⟨tg, iter, ifs, 0⟩] scope pos) m :=
  let ⟨_, _, _, _, _, p1, p2, p3, p4, p5, s⟩ := h.ex; ⟨_, pe_dc hc hN p1 ok p2 p3 p4 p5 hs, s⟩
end
end Sm

set_option autoImplicit true
set_option Elab.async false
set_option linter.all false
set_option maxRecDepth 100000
set_option maxHeartbeats 4000000
/-! New things: kept as one's own, handed back; defs that call themselves. -/
namespace Sm
open PySem PySem.Spec PyProof.Rows L2
def mSetO (i : Nat) (m : En → Res Ob) : En → SR := mS m fun o env => .nx (env.set i (.ow o))
def mRetO (m : En → Res Ob) : En → SR := mS m fun o _ => .rf o
section
variable {X : Cx} {W : WX} {e : Expr} {pos pos' : Pos} {ml : En → Res Ob}
theorem ss_setO (i : Nat) {x : Str} (hN : X.N.Nodup) (he : SE X W RFO e ml) (hi : X.N[i]? = some x := by rfl) (hx : Loc X.env.scope x := by first | exact Or.inl rfl | exact Or.inr rfl) (hs : swapsWith e (some (.Name x pos')) pos.line X.env = pure false := by rfl) (hf : X.fn x = true ∨ X.env.scope.names.lookup x = some .local := by first | exact .inl rfl | exact .inr rfl | assumption) :
    SS X W (.Assign [.Name x pos'] e pos) (mSetO i ml) := by
  obtain ⟨t, p, s⟩ := he.ex
  refine ⟨_, ps_set hN hi hx p hs hf, ?_⟩
  refine SimS.of (R := RFO) (u := fun v D σ H => gName i v σ H D.nx) s fun B0 H0 env σ B H a v B1 H1 I0 x I r D => ?_
  obtain ⟨p, ho, e1, h1, h2, h3, h4⟩ := r
  subst e1
  refine fun q => q _ B1 H1 (I.setOw (o := a) i (I0.xh.free h1) h2 h3 h4 fun j ys hj => ?_)
  exact I0.newOw h1 j ys hj
theorem ss_retO (he : SE X W RFO e ml) : SS X W (.Return (some e) pos) (mRetO ml) := by
  obtain ⟨t, p, s⟩ := he.ex
  refine ⟨_, ps_ret p, ?_⟩
  refine SimS.of (R := RFO) (u := fun v D σ H => D.rt v H) s fun B0 H0 env σ B H a v B1 H1 I0 x I r D => ?_
  obtain ⟨p, ho, e1, h1, h2, h3, h4⟩ := r
  subst e1
  exact fun q => q p ho B1 H1 I.xt0 (I0.xh.free h1) h2 h3 h4
end
section
variable {P : Program} {w : World} {K : PySem.W.Frag} {mg : Str → Option Value} {base : Heap} {x qual : Str} {params : Arguments} {body : List Stmt} {scope : Scope} {dvs : List V} {kws : List (Str × V)} {f : Addr} {fd : FuncData} {N ps : List Str} {k : Nat}
theorem spD_stuck {vs H Q E} (h : spD K (fun _ => .stuck) vs H Q E) : False := by
  obtain ⟨B, ds, _, _, h⟩ := h
  exact h
/-- no turn is left -/
theorem fn_0 (F : FunD K x qual params body scope dvs kws f fd) (S : FnScope N ps scope) : FnOk P w K mg base (L2.CX P w) (k + 1) f fd ps (spD K fun _ => .stuck) :=
  F.ok S (fun vs H Q E h => (spD_stuck h).elim) fun cdv A outer s H vs Q E hr h => (spD_stuck h).elim
end
/-- a class's def -/
def memAt (st : Stmt) (j : Nat) : Stmt := match st with
  | .ClassDef _ _ _ b _ _ _ _ _ _ _ => b.getD j (.Pass ⟨0, 0, 0, 0⟩)
  | _ => .Pass ⟨0, 0, 0, 0⟩
def dfM (c m q : Str) (st : Stmt) (dfl : List He.Dv) (kwd : List (Str × He.Dv)) : He.DefD := ⟨(c, some m), m, q, defArgs st, defBody st, defScope st, dfl, kwd⟩
def dfK (x : Str) (st : Stmt) (dfl : List He.Dv) (kwd : List (Str × He.Dv)) : He.DefD := ⟨(x, none), x, x, defArgs st, defBody st, defScope st, dfl, kwd⟩
section
variable {fa : List He.Fa} {fn : List He.DefD} {K : PySem.W.Frag} {mg : Str → Option Value}
theorem Facts.cl (c : Facts fa fn K mg) (i : Nat) {x : Str} (h : fa[i]? = some (.cls x)) : Cls K (He.ga K x) := He.cls_ok (c.says.fact i h)
theorem Facts.mt (c : Facts fa fn K mg) (i : Nat) {x m : Str} (h : fa[i]? = some (.meth x m)) : Meth K (He.ga K x) m (He.fAd K (x, some m)) := He.meth_ok (c.says.fact i h)
theorem Facts.mkr (c : Facts fa fn K mg) (i : Nat) {x : Str} (h : fa[i]? = some (.mkr x)) : Mk K (He.ga K x) (He.fAd K (x, some "__init__")) := He.mkr_ok (c.says.fact i h)
end
end Sm

set_option autoImplicit true
set_option Elab.async false
set_option linter.all false
set_option maxRecDepth 100000
set_option maxHeartbeats 4000000
/-! < and its kin, of ints and of texts; raise of an own class with one field. -/
namespace Sm
open PySem PySem.Spec PyProof.Rows L2
def isB2 (g : Int → Int → Bool) (h : Str → Str → Bool) : D → D → Option D
  | .int i, .int j => some (.bl (g i j))
  | .str x, .str y => some (.bl (h x y))
  | _, _ => none
def rIS (g : Int → Int → Bool) (h : Str → Str → Bool) : R2 := fun x y H Q => rI0 (fun i j => .bl (g i j)) x y H Q ∨ (fun x y H Q => ∃ i j, x = V.str i ∧ y = V.str j ∧ Q (V.bl (h i j)) H) x y H Q
theorem sr_is {K} {g : Int → Int → Bool} {h : Str → Str → Bool} : SR2 RP K (rIS g h) (isB2 g h) := by
  intro B H x y d e z s rx ry hf Q q
  cases d with
  | int i =>
    cases e with
    | int j =>
      cases rep_int (rx.rep s)
      cases rep_int (ry.rep s)
      cases hf
      exact .inl ⟨i, j, rfl, rfl, q _ B H (Xt.refl s) rfl⟩
    | _ => cases hf
  | str i =>
    cases e with
    | str j =>
      cases rep_str (rx.rep s)
      cases rep_str (ry.rep s)
      cases hf
      exact .inr ⟨i, j, rfl, rfl, q _ B H (Xt.refl s) rfl⟩
    | _ => cases hf
  | _ => cases hf
def ltX : D → D → Option D := isB2 (fun i j => decide (i < j)) fun x y => decide (x.cps.toList < y.cps.toList)
def leX : D → D → Option D := isB2 (fun i j => decide (i ≤ j)) fun x y => !decide (y.cps.toList < x.cps.toList)
def gtX : D → D → Option D := isB2 (fun i j => decide (j < i)) fun x y => decide (y.cps.toList < x.cps.toList)
def geX : D → D → Option D := isB2 (fun i j => decide (j ≤ i)) fun x y => !decide (x.cps.toList < y.cps.toList)
section
variable {X : Cx}
theorem op_ltX : OpR X (compareOp .Lt) (rIS (fun i j => decide (i < j)) fun x y => decide (x.cps.toList < y.cps.toList)) := op_lt.or op_lt_str
theorem op_leX : OpR X (compareOp .LtE) (rIS (fun i j => decide (i ≤ j)) fun x y => !decide (y.cps.toList < x.cps.toList)) := op_le.or op_le_str
theorem op_gtX : OpR X (compareOp .Gt) (rIS (fun i j => decide (j < i)) fun x y => decide (y.cps.toList < x.cps.toList)) := op_gt.or op_gt_str
theorem op_geX : OpR X (compareOp .GtE) (rIS (fun i j => decide (j ≤ i)) fun x y => !decide (x.cps.toList < y.cps.toList)) := op_ge.or op_ge_str
end
theorem sr_ltX {K} : SR2 RP K (rIS (fun i j => decide (i < j)) fun x y => decide (x.cps.toList < y.cps.toList)) ltX := sr_is
theorem sr_leX {K} : SR2 RP K (rIS (fun i j => decide (i ≤ j)) fun x y => !decide (y.cps.toList < x.cps.toList)) leX := sr_is
theorem sr_gtX {K} : SR2 RP K (rIS (fun i j => decide (j < i)) fun x y => decide (y.cps.toList < x.cps.toList)) gtX := sr_is
theorem sr_geX {K} : SR2 RP K (rIS (fun i j => decide (j ≤ i)) fun x y => !decide (x.cps.toList < y.cps.toList)) geX := sr_is

/-! ### an exception's __init__ that lays one field -/
def spX (K : PySem.W.Frag) (c f : Str) (F : List D → Res D) : Sp := fun vs H Q E => ∃ B H1 ds vs' a, vs = .ref a :: vs' ∧ H = upd H1 a (exo a (He.ga K c) none) ∧ H1 a = none ∧ Ex B H1 ∧ Reps K B ds vs' ∧ match F ds with
  | .ok d => ∀ dx v B' H', H' a = some (exo a (He.ga K c) (some dx)) → H' dx = some (exd dx [(f, v)]) → H1 dx = none → Rep K B' d v → B' dx = some (.xd [(f, v)]) → Xt B H1 B' (upd (del H' a) dx (.xd [(f, v)])) → Q .non H'
  | _ => False
def runX (n np : Nat) (m : En → Res D) (ds : List D) : Res D := if ds.length + 1 = np then m (.un :: envOf (n - 1) ds) else .stuck
theorem start_x {K : PySem.W.Frag} {B H : Hp} {ds : List D} {vs : List V} {N : List Str} {v0 : V} (hn : 1 ≤ N.length) (s : Ex B H) (r : Reps K B ds vs) :
    SI K B H (.un :: envOf (N.length - 1) ds) (L2.start N (v0 :: vs)) B H := by
  have hl := r.length
  have es : L2.start N (v0 :: vs) = some v0 :: (vs.map some ++ List.replicate (N.length - 1 - vs.length) none) := by
    unfold L2.start
    have e : N.length - (v0 :: vs).length = N.length - 1 - vs.length := by rw [List.length_cons]; omega
    rw [e]
    rfl
  have no : ∀ (i : Nat) (o : Ob), (envOf (N.length - 1) ds)[i]? ≠ some (Cl.ow o) := fun i o h => by
    unfold envOf at h
    by_cases hi : i < ds.length
    · rw [List.getElem?_append_left (by simpa using hi), List.getElem?_map, List.getElem?_eq_getElem hi] at h
      cases h
    · rw [List.getElem?_append_right (by simpa using hi), List.getElem?_replicate] at h
      split at h <;> cases h
  rw [es]
  refine ⟨?_, Ex.refl _, Ex.refl _, s, fun _ h _ => h, fun i d h => ?_, fun i o h => ?_, fun i j xs ys q h1 h2 _ _ => ?_⟩
  · unfold envOf
    rw [List.length_cons, List.length_cons, List.length_append, List.length_append, List.length_map, List.length_map, List.length_replicate, List.length_replicate, hl]
  · cases i with
    | zero => cases h
    | succ i =>
      have h' : (envOf (N.length - 1) ds)[i]? = some (Cl.sh d) := h
      unfold envOf at h'
      by_cases hi : i < ds.length
      · rw [List.getElem?_append_left (by simpa using hi), List.getElem?_map] at h'
        cases e : ds[i]? with
        | none => rw [e] at h'; cases h'
        | some d' =>
          rw [e] at h'
          cases h'
          obtain ⟨v, hv, rv⟩ := r.get e
          refine ⟨v, ?_, rv⟩
          show (vs.map some ++ List.replicate (N.length - 1 - vs.length) none)[i]? = _
          rw [List.getElem?_append_left (by rw [List.length_map, ← hl]; exact hi), List.getElem?_map, hv]
          rfl
      · rw [List.getElem?_append_right (by simpa using hi), List.getElem?_replicate] at h'
        split at h' <;> cases h'
  · cases i with
    | zero => cases h
    | succ i => exact absurd h (no i o)
  · cases i with
    | zero => cases h1
    | succ i => exact absurd h1 (no i xs)
section
variable {P : Program} {w : World} {K : PySem.W.Frag} {mg : Str → Option Value} {base : Heap} {x qual : Str} {params : Arguments} {scope : Scope} {dvs : List V} {kws : List (Str × V)} {fa : Addr} {fd : FuncData} {N ps : List Str} {k : Nat} {me : En → Res D} {f x0 : Str} {np pos pos' : Pos} {e : Expr}
theorem fn_X (c : Str) (F : FunD K x qual params [.Assign [.Attribute (.Name x0 np) f pos'] e pos] scope dvs kws fa fd) (S : FnScope N ps scope) (T : OexC K (He.ga K c)) (hno : PySem.W.findIn K (.ref (He.ga K c)) f = some none)
    (hb : ∀ (cdv : Value) (A : Around) (outer : List Env) (s : Shared) (H : Hp) (E : XK), Room k (A.deeper (envOfC qual scope s.heap.objs.size fa cdv)) → SE (cxOf (L2.CX P w) P w K mg base N qual scope fa cdv A outer s H E) (fun cls d _ H => E cls d H) RP e me)
    (hsw : ∀ (cdv : Value) (s : Shared), swapsWith e (some (.Attribute (.Name x0 np) f pos')) pos.line (envOfC qual scope s.heap.objs.size fa cdv) = pure false)
    (hN : N[0]? = some x0 := by rfl) (hv : Vis scope x0 := by first | exact Or.inl rfl | exact Or.inr (Or.inl rfl) | exact Or.inr (Or.inr rfl)) (hd : (x0 == ("__debug__" : Str)) = false := by decide) (hcd : (x0 == ("__classdict__" : Str)) = false := by decide) (hn : 1 ≤ N.length := by decide) :
    FnOk P w K mg base (L2.CX P w) (k + 1) fa fd ps (spX K c f (runX N.length ps.length me)) := by
  have len : ∀ vs H Q E, spX K c f (runX N.length ps.length me) vs H Q E → vs.length = ps.length := fun vs H Q E h => by
    obtain ⟨B, H1, ds, vs', a, e, _, _, _, r, h⟩ := h
    subst e
    by_cases hl : ds.length + 1 = ps.length
    · rw [List.length_cons, ← r.length]; exact hl
    · unfold runX at h
      rw [if_neg hl] at h
      exact h.elim
  refine F.ok S len fun cdv A outer s H vs Q E hr hsp => ?_
  obtain ⟨t, pt, st⟩ := (hb cdv A outer s H E hr).ex
  refine ⟨_, pss_one (ps_ost (pe_var hN hv hd hcd) pt (hsw cdv s)), ?_⟩
  have hl := len _ _ _ _ hsp
  obtain ⟨B, H1, ds, vs', a, ev, eH, h1, sx, r, h⟩ := hsp
  subst ev eH
  have hl' : ds.length + 1 = ps.length := by rw [r.length]; exact hl
  unfold runX at h
  rw [if_pos hl'] at h
  have xa : Ex H1 (upd H1 a (exo a (He.ga K c) none)) := Ex.new h1
  have I0 := start_x (N := N) (v0 := .ref a) hn (sx.trans xa) r
  have z := st B _ _ _ B _ I0
  cases em : me (.un :: envOf (N.length - 1) ds) with
  | stuck => rw [em] at h; exact h.elim
  | exc c2 fn fv => rw [em] at h; exact h.elim
  | ok d =>
    rw [em] at h z
    have e0 : (L2.start N (.ref a :: vs'))[0]? = some (some (V.ref a)) := rfl
    refine z _ fun v B' H' xt rd => ⟨.ref a, e0, a, He.ga K c, rfl, T, hno, .inl ⟨xt.h _ _ upd_same, fun dx hdx hne => ?_⟩⟩
    have hB : B' dx = none := xt.s.free hdx
    have hBa : B' a = none := xt.off a (sx.free h1) (by rw [upd_same]; exact fun z => nomatch z)
    have hH1 : H1 dx = none := (xa.trans xt.h).free hdx
    refine h dx v (upd B' dx (.xd [(f, v)])) _ upd_same (by rw [upd_ne hne, upd_same]) hH1 (rd.mono (Ex.new hB)) upd_same ⟨xt.b.trans (Ex.new hB), fun b o eb => ?_, fun b o eb => ?_, fun b g1 g2 => ?_⟩
    · have n1 : b ≠ dx := ne_of_none eb hH1
      have n2 : b ≠ a := ne_of_none eb h1
      rw [upd_ne n1, del_ne n2, upd_ne n2, upd_ne n1]
      exact xt.h _ _ (xa _ _ eb)
    · by_cases n1 : b = dx
      · subst n1; rw [upd_same] at eb ⊢; exact eb
      · rw [upd_ne n1] at eb ⊢
        have n2 : b ≠ a := ne_of_none eb hBa
        rw [del_ne n2, upd_ne n2, upd_ne n1]
        exact xt.s _ _ eb
    · have n1 : b ≠ dx := fun z => g2 (by rw [z]; exact hH1)
      rw [upd_ne n1]
      exact xt.off b g1 (fun z => g2 (xa.free z))
end
/-! ### raise C(e, ..) -/
def mRaise (c f : Str) (F : List D → Res D) (m : En → Res (List D)) : En → SR := mS m fun ds env => if Nat.ble ds.length 1000 then (match F ds with
  | .ok d => .exc env c [f] [d]
  | _ => .stuck) else .stuck
section
variable {X : Cx} {W : WX} {k : Nat} {fI : Addr} {fd : FuncData} {ps : List Str} {c x f : Str} {p pos pos' : Pos} {e : Expr} {es : List Expr} {m : En → Res (List D)} {F : List D → Res D}
theorem ss_raise (hc : X.calm = true) (tk : Takes X W) (T : OexC X.K (He.ga X.K c)) (iC : PySem.W.findIn X.K (.ref (He.ga X.K c)) "__init__" = some (some (.ref fI))) (tI : PySem.W.typeIn X.K (.ref fI) = some (.type "function"))
    (F1 : FnOk X.prog X.w X.K X.mg X.base (L2.CX X.prog X.w) k fI fd ps (spX X.K c f F)) (hr : Room (k + 1) X.A) (hb : Binds X.K fd ps []) (hx : Passes (L2.CX X.prog X.w) X (fun _ _ _ => False)) (hm : X.mg x = some (.ref (He.ga X.K c))) (ha : SA X W (e :: es) m)
    (hg : Gl X x := by rfl) (hdb : (x == ("__debug__" : Str)) = false := by decide) (he : starEach (e :: es) X.env = (false, eval e X.env) :: starEach es X.env := by rfl) (hpl : (backTo pos (starEach es X.env)).any (·.1) = false := by rfl) :
    SS X W (.Raise (some (.Call (.Name x p) (e :: es) [] pos)) none pos') (mRaise c f F m) := by
  obtain ⟨t, pa, s⟩ := ha.ex
  refine ⟨_, ps_raise hc tk (pmk_oex T iC tI F1 hr hb .nil hx hg hm pa hdb he hpl), ?_⟩
  refine SimS.of (R := RA) (u := fun vs D σ H1 => vs.length ≤ 1000 ∧ ∀ a, H1 a = none → spX X.K c f F (.ref a :: (vs ++ [])) (upd H1 a (exo a (He.ga X.K c) none)) (fun v H2 => v = .non ∧ ∃ (d : Addr) (fs : List (Str × V)), H2 a = some (exo a (He.ga X.K c) (some d)) ∧ H2 d = some (exd d fs) ∧ H1 d = none ∧
    W (.ref (He.ga X.K c)) (some d) σ (upd (del H2 a) d (.xd fs))) (fun _ _ _ => False)) s fun B0 H0 env σ B H ds vs B1 H1 I0 y I r D => ?_
  by_cases hl : Nat.ble ds.length 1000 = true
  · rw [if_pos hl]
    cases e1 : F ds with
    | stuck => trivial
    | exc _ _ _ => trivial
    | ok d =>
      refine fun q => ⟨by rw [← Reps.length r]; exact Nat.le_of_ble_eq_true hl, fun a ha => ⟨B1, H1, ds, vs, a, by rw [List.append_nil], rfl, ha, I.xs, r, ?_⟩⟩
      rw [e1]
      refine fun dx v B' H' g1 g2 g3 g4 g5 xt => ⟨rfl, dx, _, g1, g2, g3, q σ B' _ (some dx) (I.xt xt) (.inr ⟨dx, [v], rfl, g5, rfl, ?_⟩)⟩
      simp only [Reps]
      exact ⟨v, [], rfl, g4, rfl⟩
  · rw [if_neg hl]
    trivial
end
end Sm

set_option autoImplicit true
set_option Elab.async false
set_option linter.all false
set_option maxRecDepth 100000
set_option maxHeartbeats 4000000
/-! raise C() of an own class without an own __init__. -/
namespace Sm
open PySem PySem.Spec PyProof.Rows L2
section
variable {X : Cx}
theorem pmk_own0 {C : Addr} {bmB : List Value} {B newId initId : String} {x : Str} {p pos : Pos} (F : ExcBaseFacts B newId initId bmB) (q : PySem.W.excIn X.K C bmB newId = true) (gC : X.mg x = some (.ref C))
    (kC : PySem.W.keepIn X.K (.ref C) = true) (r : Raises X (.ref C)) (hg : Gl X x) (hdb : (x == ("__debug__" : Str)) = false := by decide) :
    PMk X (.Call (.Name x p) [] [] pos) (fun σ H Q => Q (.ref C) none H) := by
  intro pins s σ H Q I h
  refine wpAny_Call_Name_kw (ld_glob I hg gC ?_ hdb)
  refine PySem.W.callWith_K0 I.kIn kC ?_
  show wpAny _ _ (call (.ref C) []) _ _ _
  obtain ⟨bm, N, nm, qn, bs, hdct, sn, sub, ab, col, dd, k0, k1, k2, k3, k5, mN, hC, hN, hni, T⟩ := exc_obj I.kIn q
  refine wpAny_call_exc_subT F T hC hN hni (fun h' e hm => ?_) (by decide)
  exact mk_of I hm r h (I.hok.gone hm.new)
end
def mRaise0 (c : Str) : En → SR := fun env => .exc env c [] []
section
variable {X : Cx} {W : WX} {c x : Str} {p pos pos' : Pos} {bmB : List Value} {B newId initId : String}
theorem ss_raise0 (hc : X.calm = true) (tk : Takes X W) (F : ExcBaseFacts B newId initId bmB) (q : PySem.W.excIn X.K (He.ga X.K c) bmB newId = true) (kC : PySem.W.keepIn X.K (.ref (He.ga X.K c)) = true) (r : Raises X (.ref (He.ga X.K c))) (hm : X.mg x = some (.ref (He.ga X.K c)))
    (hg : Gl X x := by rfl) (hdb : (x == ("__debug__" : Str)) = false := by decide) : SS X W (.Raise (some (.Call (.Name x p) [] [] pos)) none pos') (mRaise0 c) := by
  refine ⟨_, ps_raise hc tk (pmk_own0 F q hm kC r hg hdb), fun B0 H0 env σ B H I D => ?_⟩
  exact fun k => k σ B H none I (.inl ⟨rfl, rfl, rfl⟩)
end
end Sm

set_option autoImplicit true
set_option Elab.async false
set_option linter.all false
set_option maxRecDepth 100000
set_option maxHeartbeats 4000000
/-! More facts of the module: what an own exception class is; a hook that carries any test of the written part. -/
namespace Sm
open PySem PySem.Spec PyProof.Rows L2
/-- an own class over ValueError, as raise with a field wants it -/
def oexB (K : PySem.W.Frag) (C : Addr) : Bool := (match K.lookup C with
  | some ⟨.type "type", _, .cls cd, sl⟩ => (match cd.mro, sl.toList with
    | .ref C' :: bm, [_, _, _, _, some (.builtin n), _] => C' == C && n == "ValueError.__new__" && !cd.hasDel && cd.hasDict && PySem.HandSPX.refsVE bm
    | _, _ => false)
  | _ => false) && (He.eqO (PySem.W.findIn K (.ref C) "__setattr__") (some (some (.builtin "object.__setattr__"))) && (decide (PySem.W.subIn K (.ref C) (.type "BaseException") = some true) && (decide (PySem.W.typeIn K (.ref C) = some (.type "type")) && PySem.W.keepIn K (.ref C))))
theorem oexB_ok {K : PySem.W.Frag} {C : Addr} (h : oexB K C = true) : OexC K C := by
  have h1 := Bool.and_eq_true_iff.mp h
  have h2 := Bool.and_eq_true_iff.mp h1.2
  have h3 := Bool.and_eq_true_iff.mp h2.2
  have h4 := Bool.and_eq_true_iff.mp h3.2
  refine ⟨?_, He.eqO_ok h2.1, of_decide_eq_true h3.1, of_decide_eq_true h4.1, h4.2⟩
  have q := h1.1
  split at q
  · rename_i dd cd sl ho
    split at q
    · rename_i C' bm k0 k1 k2 k3 n k5 hm hs
      simp only [Bool.and_eq_true, beq_iff_eq, Bool.not_eq_true'] at q
      obtain ⟨⟨⟨⟨rfl, rfl⟩, hdel⟩, hdi⟩, ht⟩ := q
      obtain ⟨nm, bs, mro, ns, qn, hd, sn, sub, ab, col, del⟩ := cd
      dsimp only at hm hdel hdi
      subst hm hdel hdi
      have hsl : sl = #[k0, k1, k2, k3, some (.builtin "ValueError.__new__"), k5] := by
        obtain ⟨l⟩ := sl
        simp only at hs
        rw [hs]
      subst hsl
      exact ⟨nm, qn, ns, bs, bm, sn, sub, ab, col, dd, k0, k1, k2, k3, k5, ho, ht⟩
    · cases q
  · cases q
/-! ### the hook -/
def obsZ (fa : List He.Fa) (fn : List He.DefD) (ex : List (PySem.W.Frag → Bool)) (K : PySem.W.Frag) : He.AlD × Bool := (He.obsD fa fn K, ex.all fun f => f K)
def obsZG (n : Nat) (fa : List He.Fa) (fn : List He.DefD) (ex : List (PySem.W.Frag → Bool)) (g : Addr → Option Obj) : He.AlD × Bool := obsZ fa fn ex (He.frG g (He.asD g n))
def hookZ (n : Nat) (fa : List He.Fa) (fn : List He.DefD) (ex : List (PySem.W.Frag → Bool)) : PySem.W.Hook where
  α := He.AlD × Bool
  obs := fun s => obsZG n fa fn ex s.heap.get?
  val := fun _ => (He.valD fn, true)
  says := fun _ h => ∃ K : PySem.W.Frag, K.In h ∧ He.SaysD fa fn K ∧ (ex.all fun f => f K) = true
  of := fun _ _ e => ⟨_, He.frG_in, congrArg Prod.fst e, congrArg Prod.snd e⟩
  keeps := fun _ _ _ ⟨K, hK, c⟩ k => ⟨K, PySem.W.Frag.In.keeps hK k, c⟩
theorem obsZG_eq {n : Nat} {fa : List He.Fa} {fn : List He.DefD} {ex : List (PySem.W.Frag → Bool)} {g : Addr → Option Obj} {s : Shared} (h : ∀ a, g a = s.heap.get? a) : obsZG n fa fn ex g = (hookZ n fa fn ex).obs s := by
  have e : g = s.heap.get? := funext h
  rw [e] <;> rfl
structure FactsZ (fa : List He.Fa) (fn : List He.DefD) (ex : List (PySem.W.Frag → Bool)) (K : PySem.W.Frag) (mg : Str → Option Value) : Prop extends Facts fa fn K mg where
  ex : (ex.all fun f => f K) = true
theorem FactsZ.tst {fa : List He.Fa} {fn : List He.DefD} {ex : List (PySem.W.Frag → Bool)} {K : PySem.W.Frag} {mg : Str → Option Value} (c : FactsZ fa fn ex K mg) (i : Nat) {f : PySem.W.Frag → Bool} (h : ex[i]? = some f) : f K = true := List.all_eq_true.mp c.ex f (List.mem_of_getElem? h)
theorem no_pass {X : Cx} : Passes (L2.CX X.prog X.w) X (fun _ _ _ => False) := fun _ _ _ _ _ _ _ c => by
  obtain ⟨_, _, _, _, _, _, _, _, _, _, _, _, h⟩ := c
  exact h.elim
end Sm

set_option autoImplicit true
set_option Elab.async false
set_option linter.all false
set_option maxRecDepth 100000
set_option maxHeartbeats 4000000
/-! sorted of texts, of a list or a tuple. -/
namespace PyProof.Rows
open PySem
section
variable {prog : Program} {w : World} {A : Around} {E : Value → Shared → Prop} {s : Shared}
theorem smCollectT {l : Addr} {vs : List Value} {Q : List Value → Shared → Prop} (hl : s.heap.IsTuple l vs.toArray)
    (h : Q vs { s with heap := (s.heap.push (seqObj "list" #[] 0)).update s.heap.objs.size (Obj.mapSeq (· ++ vs.toArray)) }) (hsz : vs.length ≤ sizeLine) :
    wpAny (model prog w) A (collect (.ref l)) Q E s := by
  obtain ⟨o, ho, hc, n, hd⟩ := id hl
  unfold collect
  refine wpAny_bind (wpAny_runValue (codeAny_builtin entry_proto_collect' ?_))
  show wpAny _ _ (do again (.builtin "list.__iadd__" ⟨[← newList [], .ref l], []⟩)) _ _ s
  refine wpAny_bind (wpAny_newList (wpAny_pure ⟨Code.quiet_builtin _ (by decide +kernel), codeAny_builtin entry_list_iadd' ?_⟩))
  show wpAny _ _ (Builtin.List.listExtendWith (.ref s.heap.objs.size) (.ref l) (.ref s.heap.objs.size)) _ _ { s with heap := s.heap.push (seqObj "list" #[] 0) }
  unfold Builtin.List.listExtendWith
  have ho' : (s.heap.push (seqObj "list" #[] 0)).get? l = some o := Heap.get?_push_of_some _ ho
  refine wpAny_bind (wpAny_typeOf (T := "tuple") ⟨o, ho', hc⟩ ?_)
  have ht : (Value.type "tuple" == Value.type "tuple") = true := by rfl
  rw [if_pos (by rw [ht]; simp)]
  refine wpAny_bind (listItems_at ho' hd ?_)
  refine wpAny_bind (listItems_at (xs := #[]) (n := 0) (Heap.get?_push_size _ rfl) rfl ?_)
  rw [if_neg (by simp)]
  refine wpAny_bind (listUpdate_at (xs := #[]) (n := 0) (Heap.get?_push_size _ rfl) rfl ?_ (Nat.zero_le _) (by show (#[] ++ vs.toArray).size ≤ sizeLine + 1; simp only [Array.size_append, List.size_toArray, List.length_nil]; omega))
  refine wpAny_pure ?_
  show wpAny (model prog w) A (do
      let o ← load s.heap.objs.size
      match o.data with
      | .seq xs _ => pure xs.toList
      | _ => unsupported "internal:collect") Q E { s with heap := (s.heap.push (seqObj "list" #[] 0)).update s.heap.objs.size (Obj.mapSeq (· ++ vs.toArray)) }
  refine wpAny_bind (wpAny_load (get?_update_seq (Heap.get?_push_size _ rfl) _) ?_)
  show wpAny _ _ (pure ((#[] : Array Value) ++ vs.toArray).toList) Q E _
  rw [show ((#[] : Array Value) ++ vs.toArray).toList = vs by simp]
  exact wpAny_pure h
theorem smSortedT {κ : KeyKind} (hO : κ.OneLt) {l : Addr} {vs : List Value} {Q : Value → Shared → Prop} (hl : s.heap.IsTuple l vs.toArray) (h0 : KeysOf κ (pairsOf vs)) (hkk : ∀ v₁ v₂ rest, vs = v₁ :: v₂ :: rest → keyKind' (v₁ :: v₂ :: rest).toArray = pure oneType') (hL : vs.length ≤ sizeLine)
    (h : ∀ st' : SortSt, (arrOf st').Perm (pairsOf vs) → SortedToK κ (arrOf st') (pairsOf vs).size → Q (.ref (s.heap.objs.size + 1)) { s with heap := sortedAll s.heap vs ((arrOf st').map (·.2)) }) :
    wpAny (model prog w) A (call (.builtin "sorted") [.ref l]) Q E s := by
  refine Calls.call_function_entry kind_sorted plain_sorted entry_sorted (args_sorted1 _) ?_
  unfold Builtin.«sorted»
  refine wpAny_bind (m := checkCount "sorted" 1 1 _) (wpAny_pure ?_)
  refine wpAny_bind (smCollectT hl ?_ hL)
  refine wpAny_bind (wpAny_newList ?_)
  have hsz : ((s.heap.push (seqObj "list" #[] 0)).update s.heap.objs.size (Obj.mapSeq (· ++ vs.toArray))).objs.size = s.heap.objs.size + 1 := by
    rw [Heap.size_update, size_push']
  have hoL : (((s.heap.push (seqObj "list" #[] 0)).update s.heap.objs.size (Obj.mapSeq (· ++ vs.toArray))).push (seqObj "list" vs.toArray 0)).get? (s.heap.objs.size + 1) = some (seqObj "list" vs.toArray 0) := by
    rw [← hsz]; exact Heap.get?_push_size _ rfl
  show wpAny _ _ _ _ _ { s with heap := ((s.heap.push (seqObj "list" #[] 0)).update s.heap.objs.size (Obj.mapSeq (· ++ vs.toArray))).push (seqObj "list" vs.toArray 0) }
  rw [hsz]
  refine wpAny_bind (wpAny_holding (wpAny_call_entry slot_list_sort ⟨_, hoL, rfl⟩ entry_list_sort (list_sort_treeKAny hO hoL h0 hkk hL fun st' a1 a2 => ⟨_, rfl, ?_⟩) (args_list_sort _)))
  exact wpAny_pure ⟨_, rfl, h st' a1 a2⟩
theorem smSortedTS {l : Addr} {vs : List Value} {ss : List Str} {Q : Value → Shared → Prop} (hl : s.heap.IsTuple l vs.toArray) (hS : StrsAre vs ss) (hL : vs.length ≤ sizeLine)
    (h : ∀ (out : Array Value) (ss' : List Str), StrsAre out.toList ss' → ss'.Perm ss → sortedS ss' = true → Q (.ref (s.heap.objs.size + 1)) { s with heap := sortedAll s.heap vs out }) :
    wpAny (model prog w) A (call (.builtin "sorted") [.ref l]) Q E s := by
  refine smSortedT strKind_oneLt hl hS.keysOf (fun v₁ v₂ rest e => keyKind_strs (by rw [← e]; exact hS)) hL fun st' hp hs => ?_
  obtain ⟨ss', h1, h2, h3⟩ := sorted_out_str hS hp hs
  exact h _ ss' h1 h2 h3
end
end PyProof.Rows

namespace Sm
open PySem PySem.Spec PyProof.Rows L2
def leStr (a b : Str) : Bool := !decide (b.cps.toList < a.cps.toList)
theorem leStr_trans {a b c : Str} (h : leStr a b = true) (h2 : leStr b c = true) : leStr a c = true := by
  have h' : ¬ b.cps.toList < a.cps.toList := by simpa [leStr] using h
  have h2' : ¬ c.cps.toList < b.cps.toList := by simpa [leStr] using h2
  have := List.le_trans (l₁ := a.cps.toList) (l₂ := b.cps.toList) (l₃ := c.cps.toList) h' h2'
  have z : ¬ c.cps.toList < a.cps.toList := this
  simpa [leStr] using z
theorem leStr_total (a b : Str) : (leStr a b || leStr b a) = true := by
  have z : (¬ b.cps.toList < a.cps.toList) ∨ ¬ a.cps.toList < b.cps.toList := List.le_total (l₁ := a.cps.toList) (l₂ := b.cps.toList)
  rcases z with z | z
  · have : leStr a b = true := by simpa [leStr] using z
    rw [this]; rfl
  · have : leStr b a = true := by simpa [leStr] using z
    rw [this, Bool.or_true]
theorem leStr_anti {a b : Str} (h : leStr a b = true) (h2 : leStr b a = true) : a = b := by
  have h' : ¬ b.cps.toList < a.cps.toList := by simpa [leStr] using h
  have h2' : ¬ a.cps.toList < b.cps.toList := by simpa [leStr] using h2
  have e : a.cps.toList = b.cps.toList := List.le_antisymm (as := a.cps.toList) (bs := b.cps.toList) h' h2'
  exact Str.ext' (Array.toList_inj.mp e)
def sortStr (xs : List Str) : List Str := xs.mergeSort leStr
theorem rising_pair {p : Str} : ∀ {r : List Str}, risingS p r = true → (p :: r).Pairwise fun a b => leStr a b = true
  | [], _ => by simp
  | x :: r, h => by
    have h' : (!ltCps x.cps.toList p.cps.toList && risingS x r) = true := h
    have h2 := Bool.and_eq_true_iff.mp h'
    have hp : leStr p x = true := by
      have := h2.1
      unfold leStr
      rw [← ltCps_eq]
      exact this
    have ih := rising_pair h2.2
    refine List.pairwise_cons.mpr ⟨fun b hb => ?_, ih⟩
    rcases List.mem_cons.mp hb with e | e
    · rw [e]; exact hp
    · exact leStr_trans hp ((List.pairwise_cons.mp ih).1 b e)
theorem sorted_pair {ys : List Str} (h : sortedS ys = true) : ys.Pairwise fun a b => leStr a b = true := by
  cases ys with
  | nil => exact .nil
  | cons x r => exact rising_pair h
theorem sorted_unique {xs ys : List Str} (hp : ys.Perm xs) (h : sortedS ys = true) : ys = sortStr xs :=
  List.Perm.eq_of_pairwise (le := fun a b => leStr a b = true) (fun a b _ _ h1 h2 => leStr_anti h1 h2) (sorted_pair h) (List.pairwise_mergeSort (le := leStr) (fun a b c h1 h2 => leStr_trans h1 h2) leStr_total xs) (hp.trans (List.mergeSort_perm xs leStr).symm)
def rSortedZ (K : PySem.W.Frag) : List V → Hp → VK → Prop := fun vs H Q => ∃ (a : Addr) (xs : List Str), vs = [V.ref a] ∧ (SqL K H a (xs.map V.str) ∨ SqT K H a (xs.map V.str)) ∧
  ∀ (p : Addr), H p = none → Q (.ref p) (upd H p (.lst ((sortStr xs).map V.str)))
theorem cr_sortedZ {X : Cx} : CallR X (.builtin "sorted") (rSortedZ X.K) := by
  intro pins s σ H vs us Q I r h
  obtain ⟨a, xs, rfl, hs, q⟩ := h
  rw [Vals.ref1 r]
  have fin : ∀ (its : List Value), xs.length ≤ sizeLine → ∀ (out : Array Value) (ys : List Str), StrsAre out.toList ys → ys.Perm xs → sortedS ys = true → EP X pins σ Q (.ref (s.heap.objs.size + 1)) { s with heap := sortedAll s.heap its out } := by
    intro its hz out ys h1 h2 h3
    have e := sorted_unique h2 h3
    subst e
    obtain ⟨ep, he'⟩ := PyProof.Rows.sortedAll_at s.heap its out
    have hlen : ((sortStr xs).map V.str).length ≤ sizeLine := by rw [List.length_map, h2.length_eq]; exact hz
    exact ⟨.ref _, upd H (s.heap.objs.size + 1) (.lst ((sortStr xs).map V.str)), I.laid (t' := s.toks) (fun _ _ => PyProof.Rows.sortedAll_old) (Nat.le_succ _) ⟨hlen, out.toList, ep, vals_of_strs h1, he'⟩, rfl, q _ (I.hok.fresh (Nat.le_succ _))⟩
  rcases hs with hs | hs
  · obtain ⟨its, rv, hl, hz⟩ := I.list hs
    have hlen0 := rv.length
    rw [List.length_map] at hlen0
    exact PyProof.Rows.sorted_strsAny hl.isList rv.strs (by rw [← hlen0]; rw [← List.length_map (f := V.str) (as := xs)]; exact hz) fun out ys h1 h2 h3 => fin its (by rw [← List.length_map (f := V.str) (as := xs)]; exact hz) out ys h1 h2 h3
  · obtain ⟨its, rv, hl, hz⟩ := I.tuple hs
    have hlen0 := rv.length
    rw [List.length_map] at hlen0
    exact PyProof.Rows.smSortedTS hl rv.strs (by rw [← hlen0]; rw [← List.length_map (f := V.str) (as := xs)]; exact hz) fun out ys h1 h2 h3 => fin its (by rw [← List.length_map (f := V.str) (as := xs)]; exact hz) out ys h1 h2 h3
def sortedL (d : D) : Res (List D) := match seqStrs d with
  | some xs => .ok ((sortStr xs).map .str)
  | none => .stuck
theorem reps_strs {K B} : ∀ xs : List Str, Reps K B (xs.map D.str) (xs.map V.str)
  | [] => by simp [Reps]
  | x :: xs => by
    simp only [List.map_cons, Reps]
    exact ⟨_, _, rfl, rfl, reps_strs xs⟩
theorem src_sorted {K} : SRC RF K (rSortedZ K) (f1 sortedL) := by
  refine src1 (fun B H x d z s rx hf Q q => ?_) fun d c fn fv z => by unfold sortedL at z; split at z <;> cases z
  unfold sortedL at hf
  split at hf
  · rename_i xs e
    cases hf
    obtain ⟨p, ep, hp⟩ := seqStrs_rep (rx.rep s) e
    subst ep
    exact ⟨p, xs, rfl, hp, fun l hl => q _ _ _ (Xt.out s hl) ⟨l, _, rfl, hl, s.free hl, upd_same, reps_strs _⟩⟩
  · cases hf
end Sm

set_option autoImplicit true
set_option Elab.async false
set_option linter.all false
set_option maxRecDepth 100000
set_option maxHeartbeats 4000000
/-! tuple * int. -/
namespace Sm
open PySem PySem.Spec PyProof.Rows L2
theorem tuple_mul1 (l : Addr) (items : Array Value) (n : Nat) (dd : Option Addr) (sl : Array (Option Value)) (u : Tok) :
    Meets (Builtin.«tuple.__mul__» ⟨[.ref l, .int 1 u], []⟩) (fun _ R s => s.heap.get? l = some { cls := .type "tuple", dict := dd, data := .seq items n, slots := sl } ∧ R (.ok (.ret (Value.ref l))) s) :=
  .of_wp fun prog w A R s h => by
    obtain ⟨hp, g, d, tk, os⟩ := s
    obtain ⟨hl, h⟩ := h
    have f1 := AutoSeq1.idx_int
    have c0 : (decide ((1 : Int) < -(2 ^ 63)) || decide ((1 : Int) ≥ 2 ^ 63)) = false := by decide
    have c1 : (items.isEmpty || (1 : Int) == 1) = true := by simp
    wp_walk using PySem.AutoSeq1.wpAny_loadPart' hl
    repeat (first
      | (refine wpAny_ite_false (decide_eq_false (by rw [c0]; exact Bool.false_ne_true)) ?_; wp_walk using PySem.AutoSeq1.wpAny_loadPart' hl)
      | (refine wpAny_ite_true (decide_eq_true (by rw [c1])) ?_; wp_walk using PySem.AutoSeq1.wpAny_loadPart' hl))
    exact ⟨_, rfl, h⟩
def rRepZ (K : PySem.W.Frag) : R2 := fun x y H Q => ∃ l k xs, x = .ref l ∧ y = .int k ∧ SqT K H l xs ∧ xs ≠ [] ∧ ((k = 1 ∧ Q (.ref l) H) ∨ (2 ≤ k ∧ k ≤ 1000 ∧ xs.length ≤ 1000 ∧ qTup (List.replicate k.toNat xs).flatten H Q))
theorem op_repZ {X : Cx} : OpR X (binaryOp .Mult) (rRepZ X.K) := by
  intro pins s σ H x y v u Q I rx ry h
  obtain ⟨l, k, xs, rfl, rfl, hT, hne, hq⟩ := h
  cases rx
  obtain ⟨t, rfl⟩ := ry
  obtain ⟨its, r, ⟨⟨cls, dd, data, sl⟩, ho, hc, n, hd⟩, hs⟩ := I.tuple hT
  simp only at hc hd
  subst hc hd
  rcases hq with ⟨h1, q⟩ | ⟨h1, h2, hz, q⟩
  · subst h1
    refine wpAny_binaryOp_repeat_ref (T := "tuple") (U := "int") (by decide) ⟨_, ho, rfl⟩ (fun s' => typeIs_int s' 1 t) noFill_tuple_mul PySem.F.fills_int_mul PySem.F.slot_int_rmul repeat_tuple PySem.F.slot_int_index.lookup
      (call_meets PySem.F.slot_int_rmul (typeIs_int s 1 t) PySem.F.entry_int_rmul (PySem.F.args_int_rmul_2 _ _) (int_rmul_tuple 1 t l its.toArray n dd sl)
        ⟨ho, rfl, ⟨_, ho, rfl⟩, call_meets PySem.F.slot_tuple_mul ⟨_, ho, rfl⟩ PySem.F.entry_tuple_mul (PySem.F.args_tuple_mul_2 _ _) (tuple_mul1 l its.toArray n dd sl t) ⟨ho, ?_⟩⟩)
    exact ⟨.ref l, H, I, rfl, q⟩
  have hle : its.length = xs.length := r.length.symm
  have hn : its ≠ [] := fun e => hne (by
    rw [e] at hle
    exact List.eq_nil_of_length_eq_zero hle.symm)
  have hi : its.toArray.isEmpty = false := by
    cases its with
    | nil => exact absurd rfl hn
    | cons a b => rfl
  have hsz0 : its.toArray.size = xs.length := by rw [List.size_toArray, hle]
  have hm : ((its.toArray.size : Nat) : Int) * k ≤ 1000000 := by
    rw [hsz0]
    have a1 : ((xs.length : Nat) : Int) * k ≤ 1000 * k := Int.mul_le_mul_of_nonneg_right (by omega) (by omega)
    omega
  have flen : (List.replicate k.toNat its).flatten.length ≤ sizeLine := by
    rw [PyProof.Rows.lm_len_rep_flat, hle, sizeLine_eq]
    have a1 : k.toNat * xs.length ≤ 1000 * 1000 := Nat.mul_le_mul (by omega) hz
    omega
  have c0 : (decide (k < -(2 ^ 63)) || decide (k ≥ 2 ^ 63)) = false := by
    rw [decide_eq_false (by omega), decide_eq_false (by omega)] <;> rfl
  have c1 : (its.toArray.isEmpty || k == 1) = false := by
    rw [hi, Bool.false_or]
    exact beq_eq_false_iff_ne.mpr (by omega)
  have c2 : (decide (k ≤ 0) || its.toArray.isEmpty) = false := by
    rw [hi, Bool.or_false]
    exact decide_eq_false (by omega)
  have c4 : Builtin.Tuple.tupleTooMany (((its.toArray.size : Nat) : Int) * k) = false := by
    unfold Builtin.Tuple.tupleTooMany
    rw [sizeLine_eq]
    exact decide_eq_false (by omega)
  refine wpAny_binaryOp_repeat_ref (T := "tuple") (U := "int") (by decide) ⟨_, ho, rfl⟩ (fun s' => typeIs_int s' k t) noFill_tuple_mul PySem.F.fills_int_mul PySem.F.slot_int_rmul repeat_tuple PySem.F.slot_int_index.lookup
    (call_meets PySem.F.slot_int_rmul (typeIs_int s k t) PySem.F.entry_int_rmul (PySem.F.args_int_rmul_2 _ _) (int_rmul_tuple k t l its.toArray n dd sl)
      ⟨ho, rfl, ⟨_, ho, rfl⟩, call_meets PySem.F.slot_tuple_mul ⟨_, ho, rfl⟩ PySem.F.entry_tuple_mul (PySem.F.args_tuple_mul_2 _ _) (tuple_mulW l its.toArray n dd sl k t c0 c1 c2 (by omega) c4 (by rw [size_rep, List.size_toArray]; exact flen)) ⟨ho, ?_⟩⟩)
  rw [size_rep]
  have hf : H s.heap.objs.size = none := I.hok.fresh (Nat.le_refl _)
  exact ⟨.ref s.heap.objs.size, _, Inv.tupZ (tk := s.toks) I (fun _ _ q => q) (by rw [PyProof.Rows.lm_len_rep_flat] at flen ⊢; rw [← hle]; exact flen) (r.rep k.toNat), rfl, q _ _ hf rfl⟩
def mulT : D → D → Option D
  | .tup xs, .int k => if xs.isEmpty then none else if k = 1 then some (.tup xs) else if 2 ≤ k ∧ k ≤ 1000 ∧ xs.length ≤ 1000 then some (.tup (List.replicate k.toNat xs).flatten) else none
  | _, _ => none
theorem sr_mulT {K} : SR2 RP K (rRepZ K) mulT := by
  intro B H x y d e z s rx ry hf Q q
  cases d with
  | tup xs =>
    cases e with
    | int k =>
      have r0 := rx.stay fun _ z => nomatch z
      obtain ⟨a, vs, e1, h1, n1, r1⟩ := rep_tup r0
      subst e1
      cases rep_int (ry.rep s)
      have hf' : (if xs.isEmpty = true then none else if k = 1 then some (D.tup xs) else if 2 ≤ k ∧ k ≤ 1000 ∧ xs.length ≤ 1000 then some (.tup (List.replicate k.toNat xs).flatten) else none) = some z := hf
      split at hf'
      · cases hf'
      · rename_i c0
        have hne : vs ≠ [] := fun e => by
          subst e
          have := r1.length
          cases xs with
          | nil => exact c0 rfl
          | cons _ _ => cases this
        split at hf'
        · rename_i c1
          cases hf'
          exact ⟨a, k, vs, rfl, rfl, s.t h1, hne, .inl ⟨c1, q _ B H (Xt.refl s) r0⟩⟩
        · split at hf'
          · rename_i c2
            cases hf'
            exact ⟨a, k, vs, rfl, rfl, s.t h1, hne, .inr ⟨c2.1, c2.2.1, by rw [← r1.length]; exact c2.2.2, qTup.ok s (r1.rep _) q⟩⟩
          · cases hf'
    | _ => cases hf
  | _ => cases hf
theorem se_mulT {X : Cx} {W : WX} {a b : Expr} {ma mb : En → Res D} {pos : Pos} (ha : SE X W RT a ma) (hb : SE X W RT b mb) : SE X W RP (.BinOp a .Mult b pos) (mOp mulT ma mb) := se_op late_P op_repZ sr_mulT ha hb
end Sm

set_option autoImplicit true
set_option Elab.async false
set_option linter.all false
set_option maxRecDepth 100000
set_option maxHeartbeats 4000000
/-! tuple(range(a, b, c)) -/
namespace Sm
open PySem PySem.Spec PyProof.Rows L2
def rgCV (a c : Int) (n : Nat) : List V := (List.range n).map fun i => V.int (a + (i : Nat) * c)
def rgCD (a c : Int) (n : Nat) : List D := (List.range n).map fun i => D.int (a + (i : Nat) * c)
theorem vals_rgC {a c : Int} {n : Nat} {acc : Array Value} (h : ItemsOf (fun i v => ∃ t, v = .int (a + i * c) t) acc n) : Vals (rgCV a c n) acc.toList := by
  have e : acc.toList.length = n := by rw [Array.length_toList]; exact h.1
  have z := vals_of_get acc.toList (fun i => V.int (a + (i : Nat) * c)) fun j u hj => by
    have hj' : acc[j]? = some u := by rw [← Array.getElem?_toList]; exact hj
    obtain ⟨t, et⟩ := h.2 j u hj'
    exact ⟨t, et⟩
  rw [e] at z
  exact z
theorem reps_rgC {K B} (a c : Int) (n : Nat) : Reps K B (rgCD a c n) (rgCV a c n) := by
  unfold rgCD rgCV
  generalize List.range n = l
  induction l with
  | nil => simp [Reps]
  | cons i l ih =>
    simp only [List.map_cons, Reps]
    exact ⟨_, _, rfl, rfl, ih⟩
def rgcB (i j c : Int) : Bool := decide (c ≠ 0 ∧ c.natAbs < 1073741824 ∧ 0 ≤ Builtin.Range.rangeSize i j c ∧ Builtin.Range.rangeSize i j c ≤ 2 ^ 24) && Builtin.Range.small i j c
def rg3T (ds : List D) : Option D := match ds with
  | [.int i, .int j, .int c] => if rgcB i j c then some (.tup (rgCD i c (Builtin.Range.rangeSize i j c).toNat)) else none
  | _ => none
theorem rg3T_inv {ds z} (h : rg3T ds = some z) : ∃ (i j k : Int) (n : Nat), ds = [.int i, .int j, .int k] ∧ k ≠ 0 ∧ k.natAbs < 1073741824 ∧ Builtin.Range.small i j k = true ∧ Builtin.Range.rangeSize i j k = n ∧ n ≤ 2 ^ 24 ∧ z = .tup (rgCD i k n) := by
  unfold rg3T at h
  split at h
  · rename_i i j k
    split at h
    · rename_i c
      cases h
      have c1 := Bool.and_eq_true_iff.mp c
      have c2 := of_decide_eq_true c1.1
      exact ⟨i, j, k, _, rfl, c2.1, c2.2.1, c1.2, by omega, by omega, rfl⟩
    · cases h
  · cases h
def mTupRg3 (m : En → Res (List D)) : En → Res D := mB m fun ds _ => ofO (rg3T ds)
section
variable {X : Cx} {W : WX} {a b c : Expr} {ta : TA} {m : En → Res (List D)} {p p2 pos pos2 : Pos}
theorem pe_tupRg3 (hc : X.calm = true) (hg : Gl X "tuple") (hm : X.mg "tuple" = none) (hgr : Gl X "range") (hmr : X.mg "range" = none) (ha : PA X [a, b, c] ta)
    (hs : starEach [a, b, c] X.env = (false, eval a X.env) :: starEach [b, c] X.env := by rfl) (hpl : (backTo pos2 (starEach [b, c] X.env)).any (·.1) = false := by rfl)
    (na : starEach [.Call (.Name "range" p2) [a, b, c] [] pos2] X.env = (false, eval (.Call (.Name "range" p2) [a, b, c] [] pos2) X.env) :: starEach [] X.env := by rfl) :
    PE X (.Call (.Name "tuple" p) [.Call (.Name "range" p2) [a, b, c] [] pos2] [] pos) (fun σ H Q => ta σ H fun vs H1 => ∃ (i j k : Int) (n : Nat), vs = [.int i, .int j, .int k] ∧ k ≠ 0 ∧ k.natAbs < 1073741824 ∧ Builtin.Range.small i j k = true ∧ Builtin.Range.rangeSize i j k = n ∧ n ≤ 2 ^ 24 ∧ qTup (rgCV i k n) H1 Q) := by
  refine ⟨fun pins s σ H Q I h => ?_⟩
  refine Call_ (ld_blt I hg hm boot_tuple (PyProof.Rows.callWith_type1 (args_cons (Call_ (ld_blt I hgr hmr boot_range (PyProof.Rows.callWith_type1 (thn (ha.run pos2 pins s σ H _ I h) fun us s1 ⟨vs, H1, I1, r1, q1⟩ => ?_) hs hpl))) na) na))
  obtain ⟨i, j, k, n, e, c0, c1, c2, c3, c4, q⟩ := q1
  subst e
  cases r1 with
  | cons r rr =>
    cases rr with
    | cons r' rr =>
      cases rr with
      | cons r'' rr =>
        cases rr
        obtain ⟨t, rfl⟩ := r
        obtain ⟨t', rfl⟩ := r'
        obtain ⟨t'', rfl⟩ := r''
        refine call_range_3 c0 ?_ (.inl (PyProof.noPylong_small c1))
        have I2 : Inv X pins σ H1 { s1 with heap := s1.heap.push { cls := .type "range", data := .fields #[.int i t, .int j t', .int k t''] } } := I1.kept (t' := s1.toks) fun b o e => Heap.get?_push_of_some _ e
        refine args_nil ?_
        refine call_tuple_range (n := n) (I2.ok.hd hc) (IsRange.new _ _ _ _ _ _ _) c2 c3 c4 fun h' tk acc hk hi => ?_
        have I3 : Inv X pins σ H1 { s1 with heap := h', toks := tk } := I2.kept hk
        have hl : (rgCV i k n).length ≤ sizeLine := by unfold rgCV; rw [List.length_map, List.length_range, sizeLine_eq]; omega
        have z := Inv.tupZ (tk := tk) I3 (fun _ _ q => q) hl (vals_rgC hi)
        rw [Array.toArray_toList] at z
        exact ⟨.ref h'.objs.size, _, z, rfl, q _ _ (I3.hok.fresh (Nat.le_refl _)) rfl⟩
theorem se_tupRg3 (hc : X.calm = true) (hm : X.mg "tuple" = none) (hmr : X.mg "range" = none) (ha : SA X W [a, b, c] m) (hg : Gl X "tuple" := by rfl) (hgr : Gl X "range" := by rfl)
    (hs : starEach [a, b, c] X.env = (false, eval a X.env) :: starEach [b, c] X.env := by rfl) (hpl : (backTo pos2 (starEach [b, c] X.env)).any (·.1) = false := by rfl)
    (na : starEach [.Call (.Name "range" p2) [a, b, c] [] pos2] X.env = (false, eval (.Call (.Name "range" p2) [a, b, c] [] pos2) X.env) :: starEach [] X.env := by rfl) :
    SE X W RP (.Call (.Name "tuple" p) [.Call (.Name "range" p2) [a, b, c] [] pos2] [] pos) (mTupRg3 m) := by
  obtain ⟨t, pa, s⟩ := ha.ex
  refine ⟨_, pe_tupRg3 hc hg hm hgr hmr pa hs hpl na, ?_⟩
  refine Sim.bind (R := RA) (S := RP) (u := fun vs σ H1 Q => ∃ (i j k : Int) (n : Nat), vs = [.int i, .int j, .int k] ∧ k ≠ 0 ∧ k.natAbs < 1073741824 ∧ Builtin.Range.small i j k = true ∧ Builtin.Range.rangeSize i j k = n ∧ n ≤ 2 ^ 24 ∧ qTup (rgCV i k n) H1 Q) s fun B0 H0 env σ B H ds vs B1 H1 I x r => ?_
  show Post _ _ _ _ _ _ (ofO (rg3T ds)) _
  cases hz : rg3T ds with
  | none => trivial
  | some z =>
    obtain ⟨i, j, k, n, e, c0, c1, c2, c3, c4, ez⟩ := rg3T_inv hz
    subst e ez
    have r' : Reps X.K B1 [.int i, .int j, .int k] vs := r
    simp only [Reps] at r'
    obtain ⟨v1, q1, e1, h1, v2, q2, e2, h2, v3, q3, e3, h3, h4⟩ := r'
    subst h4 e3 e2 e1
    cases rep_int h1
    cases rep_int h2
    cases rep_int h3
    exact fun Q q => ⟨i, j, k, n, rfl, c0, c1, c2, c3, c4, qTup.ok I.xs (reps_rgC i k _) fun v B' H' y z => q v B' H' (x.trans y) z⟩
end
end Sm

set_option autoImplicit true
set_option Elab.async false
set_option linter.all false
set_option maxRecDepth 100000
set_option maxHeartbeats 4000000
/-! x in o, o == p, len(o) for instances whose class has the method. -/
namespace Sm
open PySem PySem.Spec PyProof.Rows L2
abbrev EN : XK := fun _ _ _ => False
theorem no_passAt {X : Cx} (σ : L2.St) : PassesAt (L2.CX X.prog X.w) X σ EN := fun _ _ _ _ _ _ c => by
  obtain ⟨_, _, _, _, _, _, _, _, _, _, _, _, h⟩ := c
  exact h.elim
section
variable {X : Cx} {k : Nat} {f C : Addr} {fd : FuncData} {ps : List Str} {sp : Sp}
theorem inst_of {pins σ H s a dx fs} (I : Inv X pins σ H s) (e : H a = some (.ins C dx fs)) : ∃ od, PySem.W.InstAt s.heap a (PySem.W.instObj C dx) C (some od) := by
  obtain ⟨mA, O, _⟩ := ins_get I.hok e
  obtain ⟨od, J, _⟩ := O.look
  exact ⟨od, J⟩
def rInO (C : Addr) (sp : Sp) (neg : Bool) : R2 := fun y x H Q => ∃ a dx fs, x = .ref a ∧ H a = some (.ins C dx fs) ∧ sp [x, y] H (fun r H' => ∃ b, r = .bl b ∧ Q (.bl (if neg then !b else b)) H') EN
theorem op_inO (m : Str) (hmt : Meth X.K C "__contains__" f) (F : FnOk X.prog X.w X.K X.mg X.base (L2.CX X.prog X.w) k f fd ps sp) (hr : Room k X.A) (hb : Binds X.K fd ps []) : OpR X (compareOp .In) (rInO C sp false) := by
  intro pins s σ H y x u v Q I ry rx h
  obtain ⟨a, dx, fs, rfl, ea, h⟩ := h
  cases (show v = Value.ref a from rx)
  obtain ⟨od, J⟩ := inst_of I ea
  obtain ⟨m', hF⟩ := I.fr
  refine PySem.W.in_K hF I.ok.mod.kin J hmt.at_ hmt.fn ?_
  refine thn (run_fnSD (E := fun _ => EN) (us := [.ref a, u]) (vs := [.ref a, y]) F hr hb .nil (no_passAt σ) I (.cons rfl (.cons ry .nil)) h) fun w s' z => ?_
  obtain ⟨r, H', I', rr, b, er, q⟩ := z
  subst er
  cases (show w = Value.bool b from rr)
  exact wpAny_truthy_bool ⟨.bl b, H', I', rfl, q⟩
theorem op_niO (m : Str) (hmt : Meth X.K C "__contains__" f) (F : FnOk X.prog X.w X.K X.mg X.base (L2.CX X.prog X.w) k f fd ps sp) (hr : Room k X.A) (hb : Binds X.K fd ps []) : OpR X (compareOp .NotIn) (rInO C sp true) := by
  intro pins s σ H y x u v Q I ry rx h
  obtain ⟨a, dx, fs, rfl, ea, h⟩ := h
  cases (show v = Value.ref a from rx)
  obtain ⟨od, J⟩ := inst_of I ea
  obtain ⟨m', hF⟩ := I.fr
  refine PySem.W.notIn_K hF I.ok.mod.kin J hmt.at_ hmt.fn ?_
  refine thn (run_fnSD (E := fun _ => EN) (us := [.ref a, u]) (vs := [.ref a, y]) F hr hb .nil (no_passAt σ) I (.cons rfl (.cons ry .nil)) h) fun w s' z => ?_
  obtain ⟨r, H', I', rr, b, er, q⟩ := z
  subst er
  cases (show w = Value.bool b from rr)
  exact wpAny_truthy_bool ⟨.bl (!b), H', I', rfl, q⟩
/-- o == p, both of the class -/
def rEqO (C : Addr) (sp : Sp) : R2 := fun x y H Q => ∃ a dx fs b dy gs, x = .ref a ∧ y = .ref b ∧ H a = some (.ins C dx fs) ∧ H b = some (.ins C dy gs) ∧ sp [x, y] H Q EN
theorem op_eqO (hmt : Meth X.K C "__eq__" f) (F : FnOk X.prog X.w X.K X.mg X.base (L2.CX X.prog X.w) k f fd ps sp) (hr : Room k X.A) (hb : Binds X.K fd ps []) : OpR X (compareOp .Eq) (rEqO C sp) := by
  intro pins s σ H x y v u Q I rx ry h
  obtain ⟨a, dx, fs, b, dy, gs, rfl, rfl, ea, eb, h⟩ := h
  cases (show v = Value.ref a from rx)
  cases (show u = Value.ref b from ry)
  obtain ⟨od, J⟩ := inst_of I ea
  obtain ⟨od', J'⟩ := inst_of I eb
  obtain ⟨m', hF⟩ := I.fr
  show wpAny _ _ (richCompare .Eq (.ref a) (.ref b)) _ _ _
  refine PySem.W.cmp_K (op := .Eq) (tb := .ref C) hr.units0 hF I.ok.mod.kin J J'.type (by unfold PySem.W.notFirst; rw [beq_self_eq_true, Bool.true_or]) hmt.at_ hmt.fn ?_
  refine thn (run_fnSD (E := fun _ => EN) (us := [.ref a, .ref b]) (vs := [.ref a, .ref b]) F hr hb .nil (no_passAt σ) I (.cons rfl (.cons rfl .nil)) h) fun w s' z => ?_
  obtain ⟨z', H', I', rz, qz⟩ := z
  exact SlX.cmpback rz ⟨z', H', I', rz, qz⟩
/-- len(o) -/
def rLenO (C : Addr) (sp : Sp) : List V → Hp → VK → Prop := fun vs H Q => ∃ a dx fs, vs = [.ref a] ∧ H a = some (.ins C dx fs) ∧ sp [.ref a] H (fun r H' => ∃ n : Int, r = .int n ∧ 0 ≤ n ∧ n < 2 ^ 63 ∧ Q (.int n) H') EN
theorem run_in1 {pins : List (Addr × Obj)} {σ : L2.St} {H : Hp} {s : Shared} {Q : VK} {us : List Value} {vs : List V} (F : FnOk X.prog X.w X.K X.mg X.base (L2.CX X.prog X.w) k f fd ps sp) (hr : Room (k + 1) X.A) (hb : Binds X.K fd ps [])
    (I : Inv X pins σ H s) (r : Vals vs us) (h : sp vs H Q EN) : wpAny (model X.prog X.w) X.A.in1 (call (.ref f) us) (EP X pins σ Q) X.xe s := by
  have hl : us.length = ps.length := by rw [← r.length]; exact F.len _ _ _ _ h
  have hb' := hb s us I.kIn (by rw [List.append_nil]; exact hl)
  rw [List.append_nil] at hb'
  refine wpAny_call (codeAny_mono (F.run X.A.in1 X.stack s H ⟨us, []⟩ us vs Q EN hr.in1 I.env0.in1 hb' r h) fun r s' hq => ?_)
  cases r with
  | error e => exact no_passAt σ pins H s e s' I hq
  | ok fl =>
    cases fl with
    | ret u => exact I.after hq
    | next => exact False.elim hq
    | brk => exact False.elim hq
    | cont => exact False.elim hq
theorem call_lenO (hmt : Meth X.K C "__len__" f) (F : FnOk X.prog X.w X.K X.mg X.base (L2.CX X.prog X.w) k f fd ps sp) (hr : Room (k + 1) X.A) (hb : Binds X.K fd ps []) : CallR X (.builtin "len") (rLenO C sp) := by
  intro pins s σ H vs us Q I r h
  obtain ⟨a, dx, fs, rfl, ea, h⟩ := h
  rw [Vals.ref1 r]
  obtain ⟨od, J⟩ := inst_of I ea
  obtain ⟨m', hF⟩ := I.fr
  refine PySem.W.len_K hF I.ok.mod.kin J hmt.at_ hmt.fn ?_
  refine thn (run_in1 (us := [.ref a]) (vs := [.ref a]) F hr hb I (.cons rfl .nil) h) fun w s' z => ?_
  obtain ⟨r', H', I', rr, n, er, h0, h1, q⟩ := z
  subst er
  obtain ⟨t, rfl⟩ := (show ∃ t, w = Value.int n t from rr)
  exact ⟨⟨h0, h1⟩, ⟨.int n, H', I'.tok _, ⟨_, rfl⟩, q⟩⟩
end
/-! ### what they do to data -/
def notL : D → Bool
  | .lst _ => false
  | _ => true
theorem stay_of {K G B H d v} (r : RT K G B H d v) (h : notL d = true) : Rep K B d v := r.stay fun xs e => by subst e; cases h
def okB : Res D → Option Bool
  | .ok (.bl b) => some b
  | _ => none
theorem okB_inv {r b} (h : okB r = some b) : r = .ok (.bl b) := by
  unfold okB at h
  split at h
  · cases h; rfl
  · cases h
def inO (c : Str) (F : List D → Res D) (neg : Bool) (d e : D) : Option D := match e with
  | .obj c' fn fv => if c' = c ∧ notL d = true then (okB (F [.obj c' fn fv, d])).map fun b => .bl (if neg then !b else b) else none
  | _ => none
theorem sr_inO {K : PySem.W.Frag} {c : Str} {F : List D → Res D} {neg : Bool} : SR2 RP K (rInO (He.ga K c) (spD K F) neg) (inO c F neg) := by
  intro B H x y d e z s rx ry hf Q q
  cases e with
  | obj c' fn fv =>
    have hf' : (if c' = c ∧ notL d = true then (okB (F [.obj c' fn fv, d])).map fun b => D.bl (if neg then !b else b) else none) = some z := hf
    split at hf'
    · rename_i hc
      obtain ⟨hc, hd⟩ := hc
      subst hc
      cases e1 : okB (F [.obj c' fn fv, d]) with
      | none => rw [e1] at hf'; cases hf'
      | some b =>
        rw [e1] at hf'
        cases hf'
        have ry0 := stay_of ry (by rfl)
        have rx0 := stay_of rx hd
        have ry1 := ry0
        simp only [Rep] at ry1
        obtain ⟨a, dx, vs, ev, h1, h2, h3⟩ := ry1
        subst ev
        refine ⟨a, dx, _, rfl, s _ _ h1, B, [.obj c' fn fv, d], s, ?_, ?_⟩
        · simp only [Reps]
          exact ⟨_, _, rfl, ry0, _, _, rfl, rx0, rfl⟩
        · rw [okB_inv e1]
          exact fun v B' H' xt r => ⟨b, rep_bl r, q _ B' H' xt rfl⟩
    · cases hf'
  | _ => cases hf
def eqO (c : Str) (F : List D → Res D) (d e : D) : Option D := match d, e with
  | .obj c1 f1 v1, .obj c2 f2 v2 => if c1 = c ∧ c2 = c then (match F [.obj c1 f1 v1, .obj c2 f2 v2] with
    | .ok r => some r
    | _ => none) else none
  | _, _ => none
theorem sr_eqO {K : PySem.W.Frag} {c : Str} {F : List D → Res D} : SR2 RP K (rEqO (He.ga K c) (spD K F)) (eqO c F) := by
  intro B H x y d e z s rx ry hf Q q
  cases d with
  | obj c1 f1 v1 =>
    cases e with
    | obj c2 f2 v2 =>
      have hf' : (if c1 = c ∧ c2 = c then (match F [.obj c1 f1 v1, .obj c2 f2 v2] with
        | .ok r => some r
        | _ => none) else none) = some z := hf
      split at hf'
      · rename_i hc
        obtain ⟨hc, hd⟩ := hc
        subst hc
        subst hd
        have rx0 := stay_of rx (by rfl)
        have ry0 := stay_of ry (by rfl)
        have rx1 := rx0
        have ry1 := ry0
        simp only [Rep] at rx1 ry1
        obtain ⟨a, dx, vs, ev, h1, h2, h3⟩ := rx1
        obtain ⟨b, dy, us, eu, g1, g2, g3⟩ := ry1
        subst ev eu
        refine ⟨a, dx, _, b, dy, _, rfl, rfl, s _ _ h1, s _ _ g1, B, [.obj c2 f1 v1, .obj c2 f2 v2], s, ?_, ?_⟩
        · simp only [Reps]
          exact ⟨_, _, rfl, rx0, _, _, rfl, ry0, rfl⟩
        · cases e1 : F [.obj c2 f1 v1, .obj c2 f2 v2] with
          | stuck => rw [e1] at hf'; cases hf'
          | exc _ _ _ => rw [e1] at hf'; cases hf'
          | ok r =>
            rw [e1] at hf'
            cases hf'
            exact fun v B' H' xt r => q v B' H' xt r
      · cases hf'
    | _ => cases hf
  | _ => cases hf
def lenO (c : Str) (F : List D → Res D) (d : D) : Res D := match d with
  | .obj c' fn fv => if c' = c then (match F [.obj c' fn fv] with
    | .ok (.int n) => if decide (0 ≤ n ∧ n < 2 ^ 63) then .ok (.int n) else .stuck
    | _ => .stuck) else .stuck
  | _ => .stuck
theorem lenO_inv {c F d z} (h : lenO c F d = .ok z) : ∃ fn fv n, d = .obj c fn fv ∧ F [.obj c fn fv] = .ok (.int n) ∧ 0 ≤ n ∧ n < 2 ^ 63 ∧ z = .int n := by
  unfold lenO at h
  split at h
  · split at h
    · rename_i hc
      subst hc
      split at h
      · rename_i n e
        split at h
        · rename_i hn
          cases h
          have := of_decide_eq_true hn
          exact ⟨_, _, n, rfl, e, this.1, this.2, rfl⟩
        · cases h
      · cases h
    · cases h
  · cases h
theorem lenO_noexc {c F d x fn fv} : lenO c F d ≠ .exc x fn fv := fun h => by
  unfold lenO at h
  split at h
  · split at h
    · split at h
      · split at h <;> cases h
      · cases h
    · cases h
  · cases h
theorem src_lenO {K : PySem.W.Frag} {c : Str} {F : List D → Res D} : SRC RP K (rLenO (He.ga K c) (spD K F)) (f1 (lenO c F)) := by
  refine src1 (fun B H x d z s rx hf Q q => ?_) fun d x fn fv z => lenO_noexc z
  obtain ⟨fn, fv, n, ed, eF, h0, h1, ez⟩ := lenO_inv hf
  subst ed ez
  have rx0 := stay_of rx (by rfl)
  have rx1 := rx0
  simp only [Rep] at rx1
  obtain ⟨a, dx, vs, ev, g1, g2, g3⟩ := rx1
  subst ev
  refine ⟨a, dx, _, rfl, s _ _ g1, B, [.obj c fn fv], s, reps_one rx0, ?_⟩
  rw [eF]
  exact fun v B' H' xt r => ⟨n, rep_int r, h0, h1, q _ B' H' xt rfl⟩
end Sm

set_option autoImplicit true
set_option Elab.async false
set_option linter.all false
set_option maxRecDepth 100000
set_option maxHeartbeats 4000000
/-! isinstance of an instance and an own class. -/
namespace Sm
open PySem PySem.Spec PyProof.Rows L2
/-- an instance of c, asked for the class C: b -/
def isoB (c C : Str) (b : Bool) (K : PySem.W.Frag) : Bool := He.Fa.ok K (.cls c) && (He.eqO (PySem.W.findIn K (.ref (He.ga K c)) "__class__") (some (some (.builtin "object.__class__"))) &&
  (He.eqO (PySem.W.specialIn K (.builtin "object.__class__") "__get__") (some (some (.builtin "getset_descriptor.__get__"))) && (decide (PySem.W.takesIn K (.builtin "object.__class__") = some true) &&
  (decide (PySem.W.mroIn K (He.ga K c) (.type "object") = some true) && decide (PySem.W.kitOne K (.ref (He.ga K c)) (.ref (He.ga K C)) = some b)))))
theorem isoB_ok {c C : Str} {b : Bool} {K : PySem.W.Frag} (h : isoB c C b K = true) {H : Hp} {a dx : Addr} {fs : List (Str × V)} (e : H a = some (.ins (He.ga K c) dx fs)) :
    TyX K H (.ref a) (.ref (He.ga K c)) ∧ PySem.W.kitOne K (.ref (He.ga K c)) (.ref (He.ga K C)) = some b := by
  have h1 := Bool.and_eq_true_iff.mp h
  have h2 := Bool.and_eq_true_iff.mp h1.2
  have h3 := Bool.and_eq_true_iff.mp h2.2
  have h4 := Bool.and_eq_true_iff.mp h3.2
  have h5 := Bool.and_eq_true_iff.mp h4.2
  exact ⟨.base (.ins e (He.cls_ok h1.1) (He.eqO_ok h2.1) (He.eqO_ok h3.1) (of_decide_eq_true h4.1) (of_decide_eq_true h5.1)), of_decide_eq_true h5.2⟩
def lookB (c : Str) : List (Str × Bool) → Option Bool
  | [] => none
  | (x, b) :: r => if c = x then some b else lookB c r
def isiO (tab : List (Str × Bool)) (d : D) : Option D := match d with
  | .obj c _ _ => (lookB c tab).map .bl
  | _ => none
def TabOk (K : PySem.W.Frag) (C : Str) (tab : List (Str × Bool)) : Prop := ∀ c b, lookB c tab = some b → isoB c C b K = true
theorem TabOk.nil {K C} : TabOk K C [] := fun c b h => by cases h
theorem TabOk.cons {K C x b tab} (h : isoB x C b K = true) (t : TabOk K C tab) : TabOk K C ((x, b) :: tab) := fun c b' e => by
  have e' : (if c = x then some b else lookB c tab) = some b' := e
  split at e'
  · rename_i q
    cases e'
    subst q
    exact h
  · exact t c b' e'
section
variable {X : Cx} {W : WX} {e : Expr} {m : En → Res D} {p pos px : Pos} {C x : Str}
theorem se_isiO {tab : List (Str × Bool)} (ok : TabOk X.K C tab) (hm : X.mg "isinstance" = none) (hx : X.mg x = some (.ref (He.ga X.K C))) (h : SE X W RP e m)
    (hv : bootBuiltins "isinstance" = some (.builtin "isinstance") := by decide +kernel) (hg : Gl X "isinstance" := by rfl) (hgx : Gl X x := by rfl) (hdb : (x == ("__debug__" : Str)) = false := by decide)
    (he : starEach [e, .Name x px] X.env = (false, eval e X.env) :: starEach [.Name x px] X.env := by rfl) (he2 : starEach [.Name x px] X.env = (false, eval (.Name x px) X.env) :: starEach [] X.env := by rfl)
    (hpl : (backTo pos (starEach [.Name x px] X.env)).any (·.1) = false := by rfl) : SE X W RP (.Call (.Name "isinstance" p) [e, .Name x px] [] pos) (mUn (isiO tab) m) := by
  obtain ⟨t, pa, s⟩ := h.ex
  refine ⟨_, pe_callB call_isi hg hm hv (pa_cons pa (pa_cons (pe_glob (v := .ref (He.ga X.K C)) hgx hx rfl hdb) pa_nil he2) he) (by decide) (by decide) he hpl, ?_⟩
  refine Sim.bind (R := RP) (S := RP) (u := fun v σ H Q => rIsi X.K [v, .ref (He.ga X.K C)] H Q) s fun B0 H0 env σ B H d v B1 H1 I y r => ?_
  cases d with
  | obj c fn fv =>
    show Post _ _ _ _ _ _ (ofO ((lookB c tab).map D.bl)) _
    cases e1 : lookB c tab with
    | none => trivial
    | some b =>
      have r' : Rep X.K B1 (.obj c fn fv) v := r
      simp only [Rep] at r'
      obtain ⟨a, dx, vs, ev, h1, h2, h3⟩ := r'
      subst ev
      obtain ⟨k1, k2⟩ := isoB_ok (ok c b e1) (I.xs _ _ h1)
      exact fun Q q => ⟨.ref a, .ref (He.ga X.K C), _, _, b, rfl, .own _, k1, k2, q _ B1 H1 y rfl⟩
  | _ => trivial
end
end Sm

set_option autoImplicit true
set_option Elab.async false
set_option linter.all false
set_option maxRecDepth 100000
set_option maxHeartbeats 4000000
/-! a, b = e; xs[::-1]; list(range(a, b, c)). -/
namespace Sm
open PySem PySem.Spec PyProof.Rows L2
def mAsg (m : En → Res D) (f : D → En → Option En) : En → SR := mS m fun d env => match f d env with
  | some env' => .nx env'
  | none => .stuck
section
variable {X : Cx} {W : WX} {tg e : Expr} {pos p1 p2 p3 : Pos} {me : En → Res D} {f : D → En → Option En} {sl : List Nat}
theorem ss_asg (he : SE X W RP e me) (k : STg X tg f sl) (hs : swapsWithSole [tg] e pos.line X.env = pure false := by rfl) (hw : swappedStores [tg] e X.env = pure none := by rfl)
    (h1 : (assignEach [tg] X.env).map (·.2) = [assign tg X.env] := by rfl) : SS X W (.Assign [tg] e pos) (mAsg me f) := by
  obtain ⟨t, p, s⟩ := he.ex
  obtain ⟨g, pg, ok⟩ := k.ex
  refine ⟨_, ps_asg p pg hs hw h1, ?_⟩
  refine SimS.of (R := RP) (u := fun v D σ H => g v σ H D.nx) s fun B0 H0 env σ B H d v B1 H1 I0 x I r D => ?_
  cases e1 : f d env with
  | none => trivial
  | some env' => exact fun q => ok B0 H0 env env' σ B1 H1 d v I r e1 _ fun σ2 B2 H3 I2 _ _ => q σ2 B2 H3 I2
/-- xs[::-1] of a list -/
def revL : D → Res (List D)
  | .lst xs => .ok xs.reverse
  | _ => .stuck
def mRevL (m : En → Res D) : En → Res (List D) := mB m fun d _ => revL d
theorem se_revL {k : Nat} (he : SE X W RT e me) : SE X W RF (.Subscript e (.Slice none none (some (.UnaryOp .USub (.Constant (.int 1) k p1) p2)) p3) pos) (mRevL me) := by
  obtain ⟨t, p, s⟩ := he.ex
  refine ⟨_, pe_revL p, ?_⟩
  refine Sim.bind (R := RT) (S := RF) (u := fun x σ H1 Q => ∃ a xs, x = .ref a ∧ SqL X.K H1 a xs ∧ ∀ p, H1 p = none → Q (.ref p) (upd H1 p (.lst xs.reverse))) s fun B0 H0 env σ B H d v B1 H1 I x r => ?_
  cases d with
  | lst xs =>
    obtain ⟨a, vs, e1, h1, r1⟩ := r.list I.xs
    subst e1
    exact fun Q q => ⟨a, vs, rfl, SqL.of h1, fun l hl => q _ B1 _ (x.trans (Xt.out I.xs hl)) ⟨l, _, rfl, x.h.free hl, I.xs.free hl, upd_same, r1.reverse⟩⟩
  | _ => trivial
end
/-! list(range(a, b, c)) -/
def rg3L (ds : List D) : Option (List D) := match ds with
  | [.int i, .int j, .int c] => if rgcB i j c then some (rgCD i c (Builtin.Range.rangeSize i j c).toNat) else none
  | _ => none
theorem rg3L_inv {ds z} (h : rg3L ds = some z) : ∃ (i j k : Int) (n : Nat), ds = [.int i, .int j, .int k] ∧ k ≠ 0 ∧ k.natAbs < 1073741824 ∧ Builtin.Range.small i j k = true ∧ Builtin.Range.rangeSize i j k = n ∧ n ≤ 2 ^ 24 ∧ z = rgCD i k n := by
  unfold rg3L at h
  split at h
  · rename_i i j k
    split at h
    · rename_i c
      cases h
      have c1 := Bool.and_eq_true_iff.mp c
      have c2 := of_decide_eq_true c1.1
      exact ⟨i, j, k, _, rfl, c2.1, c2.2.1, c1.2, by omega, by omega, rfl⟩
    · cases h
  · cases h
def mListRg3 (m : En → Res (List D)) : En → Res (List D) := mB m fun ds _ => ofO (rg3L ds)
section
variable {X : Cx} {W : WX} {a b c : Expr} {ta : TA} {m : En → Res (List D)} {p p2 pos pos2 : Pos}
theorem pe_listRg3 (hc : X.calm = true) (hg : Gl X "list") (hm : X.mg "list" = none) (hgr : Gl X "range") (hmr : X.mg "range" = none) (ha : PA X [a, b, c] ta)
    (hs : starEach [a, b, c] X.env = (false, eval a X.env) :: starEach [b, c] X.env := by rfl) (hpl : (backTo pos2 (starEach [b, c] X.env)).any (·.1) = false := by rfl)
    (na : starEach [.Call (.Name "range" p2) [a, b, c] [] pos2] X.env = (false, eval (.Call (.Name "range" p2) [a, b, c] [] pos2) X.env) :: starEach [] X.env := by rfl) :
    PE X (.Call (.Name "list" p) [.Call (.Name "range" p2) [a, b, c] [] pos2] [] pos) (fun σ H Q => ta σ H fun vs H1 => ∃ (i j k : Int) (n : Nat), vs = [.int i, .int j, .int k] ∧ k ≠ 0 ∧ k.natAbs < 1073741824 ∧ Builtin.Range.small i j k = true ∧ Builtin.Range.rangeSize i j k = n ∧ n ≤ 2 ^ 24 ∧
      ∀ q, H1 q = none → Q (.ref q) (upd H1 q (.lst (rgCV i k n)))) := by
  refine ⟨fun pins s σ H Q I h => ?_⟩
  refine Call_ (ld_blt I hg hm boot_list (PyProof.Rows.callWith_type1 (args_cons (Call_ (ld_blt I hgr hmr boot_range (PyProof.Rows.callWith_type1 (thn (ha.run pos2 pins s σ H _ I h) fun us s1 ⟨vs, H1, I1, r1, q1⟩ => ?_) hs hpl))) na) na))
  obtain ⟨i, j, k, n, e, c0, c1, c2, c3, c4, q⟩ := q1
  subst e
  cases r1 with
  | cons r rr =>
    cases rr with
    | cons r' rr =>
      cases rr with
      | cons r'' rr =>
        cases rr
        obtain ⟨t, rfl⟩ := r
        obtain ⟨t', rfl⟩ := r'
        obtain ⟨t'', rfl⟩ := r''
        refine call_range_3 c0 ?_ (.inl (PyProof.noPylong_small c1))
        have I2 : Inv X pins σ H1 { s1 with heap := s1.heap.push { cls := .type "range", data := .fields #[.int i t, .int j t', .int k t''] } } := I1.kept (t' := s1.toks) fun b o e => Heap.get?_push_of_some _ e
        refine args_nil ?_
        refine call_list_range (n := n) (I2.ok.hd hc) (IsRange.new _ _ _ _ _ _ _) c2 c3 c4 fun h' tk acc c' hk e' hi => ?_
        refine ⟨.ref _, upd H1 _ (.lst (rgCV i k n)), I2.laid hk (Nat.le_refl _) (show ObjOk X.prog X.w _ _ _ (.lst (rgCV i k n)) from ⟨?_, acc.toList, c', vals_rgC hi, ?_⟩), rfl, q _ (I2.hok.fresh (Nat.le_refl _))⟩
        · unfold rgCV; rw [List.length_map, List.length_range, sizeLine_eq]; omega
        · rw [Array.toArray_toList]; exact e'
theorem se_listRg3 (hc : X.calm = true) (hm : X.mg "list" = none) (hmr : X.mg "range" = none) (ha : SA X W [a, b, c] m) (hg : Gl X "list" := by rfl) (hgr : Gl X "range" := by rfl)
    (hs : starEach [a, b, c] X.env = (false, eval a X.env) :: starEach [b, c] X.env := by rfl) (hpl : (backTo pos2 (starEach [b, c] X.env)).any (·.1) = false := by rfl)
    (na : starEach [.Call (.Name "range" p2) [a, b, c] [] pos2] X.env = (false, eval (.Call (.Name "range" p2) [a, b, c] [] pos2) X.env) :: starEach [] X.env := by rfl) :
    SE X W RF (.Call (.Name "list" p) [.Call (.Name "range" p2) [a, b, c] [] pos2] [] pos) (mListRg3 m) := by
  obtain ⟨t, pa, s⟩ := ha.ex
  refine ⟨_, pe_listRg3 hc hg hm hgr hmr pa hs hpl na, ?_⟩
  refine Sim.bind (R := RA) (S := RF) (u := fun vs σ H1 Q => ∃ (i j k : Int) (n : Nat), vs = [.int i, .int j, .int k] ∧ k ≠ 0 ∧ k.natAbs < 1073741824 ∧ Builtin.Range.small i j k = true ∧ Builtin.Range.rangeSize i j k = n ∧ n ≤ 2 ^ 24 ∧
      ∀ q, H1 q = none → Q (.ref q) (upd H1 q (.lst (rgCV i k n)))) s fun B0 H0 env σ B H ds vs B1 H1 I x r => ?_
  show Post _ _ _ _ _ _ (ofO (rg3L ds)) _
  cases hz : rg3L ds with
  | none => trivial
  | some z =>
    obtain ⟨i, j, k, n, e, c0, c1, c2, c3, c4, ez⟩ := rg3L_inv hz
    subst e ez
    have r' : Reps X.K B1 [.int i, .int j, .int k] vs := r
    simp only [Reps] at r'
    obtain ⟨v1, q1, e1, h1, v2, q2, e2, h2, v3, q3, e3, h3, h4⟩ := r'
    subst h4 e3 e2 e1
    cases rep_int h1
    cases rep_int h2
    cases rep_int h3
    exact fun Q q => ⟨i, j, k, n, rfl, c0, c1, c2, c3, c4, fun l hl => q _ B1 _ (x.trans (Xt.out I.xs hl)) ⟨l, _, rfl, x.h.free hl, I.xs.free hl, upd_same, reps_rgC i k n⟩⟩
end
end Sm

set_option autoImplicit true
set_option Elab.async false
set_option linter.all false
set_option maxRecDepth 100000
set_option maxHeartbeats 4000000
/-! x in t for data in a tuple; l.remove(x) for data; d[k] of a table of the module. -/
namespace Sm
open PySem PySem.Spec PyProof.Rows L2
/-! ### in, any data -/
section
variable {X : Cx}
def rInTD (K : PySem.W.Frag) : R2 := fun x y H Q => ∃ d ds, Dp K H x d ∧ Dp K H y (.tuple ds) ∧ SeqAt.shaped d = true ∧ SeqAt.shaped (.tuple ds) = true ∧ Q (.bl (ds.any fun z => PyData.eqv z d)) H
def rNiTD (K : PySem.W.Frag) : R2 := fun x y H Q => ∃ d ds, Dp K H x d ∧ Dp K H y (.tuple ds) ∧ SeqAt.shaped d = true ∧ SeqAt.shaped (.tuple ds) = true ∧ Q (.bl (!ds.any fun z => PyData.eqv z d)) H
theorem op_inTD (hu : X.A.units + 65 < cLine) : OpR X (compareOp .In) (rInTD X.K) := by
  intro pins s σ H x y v u Q I rx ry h
  obtain ⟨d, ds, hd, he, sd, se, q⟩ := h
  obtain ⟨as, r1⟩ := Dp.reads I d x v hd rx
  obtain ⟨bs, r2⟩ := Dp.reads I (.tuple ds) y u he ry
  exact SeqAt.in_tuple_reads r2 r1 (SeqAt.canLay_of_shaped se) (SeqAt.canLay_of_shaped sd) (room_in_shaped sd hu) ⟨.bl _, H, I, rfl, q⟩
theorem op_niTD (hu : X.A.units + 65 < cLine) : OpR X (compareOp .NotIn) (rNiTD X.K) := by
  intro pins s σ H x y v u Q I rx ry h
  obtain ⟨d, ds, hd, he, sd, se, q⟩ := h
  obtain ⟨as, r1⟩ := Dp.reads I d x v hd rx
  obtain ⟨bs, r2⟩ := Dp.reads I (.tuple ds) y u he ry
  exact SeqAt.notIn_tuple_reads r2 r1 (SeqAt.canLay_of_shaped se) (SeqAt.canLay_of_shaped sd) (room_in_shaped sd hu) ⟨.bl _, H, I, rfl, q⟩
end
def inTB (d e : D) : Option Bool := match dat d, dat e with
  | some p, some (.tuple qs) => if SeqAt.shaped p && SeqAt.shaped (.tuple qs) then some (qs.any fun z => PyData.eqv z p) else none
  | _, _ => none
theorem inTB_inv {d e : D} {b : Bool} (h : inTB d e = some b) : ∃ p qs, dat d = some p ∧ dat e = some (.tuple qs) ∧ SeqAt.shaped p = true ∧ SeqAt.shaped (.tuple qs) = true ∧ b = qs.any fun z => PyData.eqv z p := by
  unfold inTB at h
  cases e1 : dat d with
  | none => rw [e1] at h; cases h
  | some p =>
    cases e2 : dat e with
    | none => rw [e1, e2] at h; cases h
    | some q =>
      rw [e1, e2] at h
      cases q with
      | tuple qs =>
        have h' : (if (SeqAt.shaped p && SeqAt.shaped (.tuple qs)) = true then some (qs.any fun z => PyData.eqv z p) else none) = some b := h
        split at h'
        · rename_i c
          cases h'
          exact ⟨p, qs, rfl, rfl, (Bool.and_eq_true_iff.mp c).1, (Bool.and_eq_true_iff.mp c).2, rfl⟩
        · cases h'
      | _ => cases h
/-- flat things or a dict's keys first; else data in a list, data in a tuple -/
def inYB (d e : D) : Option Bool := match inXB d e with
  | some b => some b
  | none => match inB d e with
    | some b => some b
    | none => inTB d e
def inY (d e : D) : Option D := (inYB d e).map .bl
def niY (d e : D) : Option D := (inYB d e).map fun b => .bl (!b)
def rInY (K : PySem.W.Frag) : R2 := fun x y H Q => rInX K x y H Q ∨ (rInD K x y H Q ∨ rInTD K x y H Q)
def rNiY (K : PySem.W.Frag) : R2 := fun x y H Q => rNiX K x y H Q ∨ (rNotInD K x y H Q ∨ rNiTD K x y H Q)
theorem op_inY {X : Cx} (h1 : X.A.units + 1 < cLine) (h2 : X.A.units + 65 < cLine) : OpR X (compareOp .In) (rInY X.K) := (op_inX h1).or ((op_inD h2).or (op_inTD h2))
theorem op_niY {X : Cx} (h1 : X.A.units + 1 < cLine) (h2 : X.A.units + 65 < cLine) : OpR X (compareOp .NotIn) (rNiY X.K) := (op_niX h1).or ((op_notInD h2).or (op_niTD h2))
theorem sr_inY {K} : SR2 RP K (rInY K) inY := by
  intro B H x y d e z s rx ry hf Q q
  unfold inY inYB at hf
  cases h : inXB d e with
  | some b =>
    rw [h] at hf
    exact .inl (sr_inX B H x y d e z s rx ry (by unfold inX; rw [h]; exact hf) Q q)
  | none =>
    rw [h] at hf
    cases h2 : inB d e with
    | some b =>
      rw [h2] at hf
      exact .inr (.inl (sr_inD B H x y d e z s rx ry (by unfold inD; rw [h2]; exact hf) Q q))
    | none =>
      rw [h2] at hf
      cases h3 : inTB d e with
      | none => rw [h3] at hf; cases hf
      | some b =>
        rw [h3] at hf
        cases hf
        obtain ⟨p1, p2, g1, g2, s1, s2, rfl⟩ := inTB_inv h3
        exact .inr (.inr ⟨p1, p2, dp_of (rx.rep s) g1, dp_of (ry.rep s) g2, s1, s2, q _ B H (Xt.refl s) rfl⟩)
theorem sr_niY {K} : SR2 RP K (rNiY K) niY := by
  intro B H x y d e z s rx ry hf Q q
  unfold niY inYB at hf
  cases h : inXB d e with
  | some b =>
    rw [h] at hf
    exact .inl (sr_niX B H x y d e z s rx ry (by unfold niX; rw [h]; exact hf) Q q)
  | none =>
    rw [h] at hf
    cases h2 : inB d e with
    | some b =>
      rw [h2] at hf
      exact .inr (.inl (sr_niD B H x y d e z s rx ry (by unfold niD; rw [h2]; exact hf) Q q))
    | none =>
      rw [h2] at hf
      cases h3 : inTB d e with
      | none => rw [h3] at hf; cases hf
      | some b =>
        rw [h3] at hf
        cases hf
        obtain ⟨p1, p2, g1, g2, s1, s2, rfl⟩ := inTB_inv h3
        exact .inr (.inr ⟨p1, p2, dp_of (rx.rep s) g1, dp_of (ry.rep s) g2, s1, s2, q _ B H (Xt.refl s) rfl⟩)

/-! ### l.remove(x), data, one's own list -/
section
variable {X : Cx}
def rRemD (K : PySem.W.Frag) : V → List V → Hp → VK → Prop := fun x xs H Q => ∃ (l : Addr) (y : V) (d : PyData) (ds : List PyData) (vs : List V) (j : Nat) (z : PyData), x = V.ref l ∧ xs = [y] ∧ H l = some (.lst vs) ∧ DpAll K H vs ds ∧ Dp K H y d ∧
  SeqAt.shaped (.list ds) = true ∧ SeqAt.shaped d = true ∧ ds[j]? = some z ∧ PyData.eqv z d = true ∧ (∀ (m : Nat) (z' : PyData), m < j → ds[m]? = some z' → PyData.eqv z' d = false) ∧ Q .non (upd H l (.lst (vs.eraseIdx j)))
theorem mt_removeD (hu : X.A.units + 65 < cLine) : MtR X "list.remove" (rRemD X.K) := by
  intro pins s σ H x xs v us Q I rx rxs h
  obtain ⟨l, y, d, ds, vs, j, z, rfl, rfl, hH, ha, hy, sl, sd, hz, hzj, hno, q⟩ := h
  cases rx
  obtain ⟨uy, rfl, ry⟩ := rxs.one
  obtain ⟨bs, r1⟩ := Dp.reads I d y uy hy ry
  have hxs : PyData.canLayAll0 ds = true := SeqAt.canLay_of_shaped sl
  have hroom : X.A.units + 1 + min (PyData.depthAll ds) d.depth < cLine := room_in_shaped sd hu
  obtain ⟨hlen, its, n, rv, hl, e⟩ := I.lstM hH
  obtain ⟨as, h4⟩ := Dp.readsAll I ds _ its ha rv
  have hn : its.length = ds.length := SeqAt.ReadsAll.length ds its as h4
  have hmap : its.map (SeqAt.readOf s.heap) = ds := SeqAt.readsAll_map ds its as hxs h4
  have hvl := rv.length
  obtain ⟨hjd, _⟩ := List.getElem?_eq_some_iff.mp hz
  have hjl : j < its.length := by omega
  have hj : j < its.toArray.size := by simpa using hjl
  have at_ : ∀ (m : Nat) (hm : m < its.toArray.size) (z' : PyData), ds[m]? = some z' → SeqAt.readOf s.heap its.toArray[m] = z' := by
    intro m hm z' hz'
    have hml : m < its.length := by simpa using hm
    rw [← hmap, List.getElem?_map, List.getElem?_eq_getElem hml] at hz'
    have e1 : SeqAt.readOf s.heap its[m] = z' := Option.some.inj (show some (SeqAt.readOf s.heap its[m]) = some z' from hz')
    simpa using e1
  refine call_meets PySem.F.slot_list_remove ⟨_, e, rfl⟩ PySem.F.entry_list_remove (PySem.F.args_list_remove_2 _ _)
    (PySem.SeqAt.list_removeAt l its.toArray n none #[] uy (fun u => PyData.eqv (SeqAt.readOf s.heap u) d) j hj ?_ ?_ (by rw [List.size_toArray]; omega)) ⟨e, SeqAt.items_eqAt (vs := its.toArray) (show ReadsAll s.heap its.toArray.toList ds as from h4) r1 hxs (SeqAt.canLay_of_shaped sd) hroom, ?_⟩
  · show PyData.eqv (SeqAt.readOf s.heap its.toArray[j]) d = true
    rw [at_ j hj z hz]
    exact hzj
  · intro m hm hmj
    have hmd : m < ds.length := by omega
    have hz' : ds[m]? = some ds[m] := List.getElem?_eq_getElem hmd
    show PyData.eqv (SeqAt.readOf s.heap its.toArray[m]) d = false
    rw [at_ m hm _ hz']
    exact hno m _ hmj hz'
  · refine ⟨.non, _, I.lset (its' := its.eraseIdx j) (t' := s.toks) hH e ?_ (rv.eraseIdx j) ?_, rfl, q⟩
    · show its.toArray.eraseIdxIfInBounds j = (its.eraseIdx j).toArray
      rw [List.eraseIdxIfInBounds_toArray]
    · have := List.length_eraseIdx_le vs j
      omega
end
def remG (xs ds : List D) : Option (List D) := match ds with
  | [y] => (match dats xs, oneDat y with
    | some ps, some q => if SeqAt.shaped (.list ps) then (firstEq ps q).map fun j => xs.eraseIdx j else none
    | _, _ => none)
  | _ => none
def MutE (r : PySem.W.Frag → V → List V → Hp → VK → Prop) (g : List D → List D → Option (List D)) : Prop :=
  ∀ (K : PySem.W.Frag) (B H : Hp) (l : Addr) (xs ds ys : List D) (vs us : List V), Ex B H → H l = some (.lst vs) → Reps K B xs vs → Reps K B ds us → g xs ds = some ys → ∃ ws, Reps K B ys ws ∧ ∀ Q : VK, Q .non (upd H l (.lst ws)) → r K (.ref l) us H Q
theorem mut_rem : MutE rRemD remG := by
  intro K B H l xs ds ys vs us s hH r rs hf
  unfold remG at hf
  split at hf
  · rename_i y
    split at hf
    · rename_i ps p e1 e2
      split at hf
      · rename_i c
        obtain ⟨b1, b2⟩ := oneDat_inv e2
        cases e3 : firstEq ps p with
        | none => rw [e3] at hf; cases hf
        | some j =>
          rw [e3] at hf
          cases hf
          obtain ⟨z, h1, h2, h3⟩ := firstEq_inv e3
          simp only [Reps] at rs
          obtain ⟨v, w, ev, rv, ew⟩ := rs
          subst ew ev
          exact ⟨vs.eraseIdx j, r.eraseIdx j, fun Q q => ⟨l, v, p, ps, vs, j, z, rfl, rfl, hH, dps_of (r.mono s) e1, dp_of (rv.mono s) b1, c, b2, h1, h2, h3, q⟩⟩
      · cases hf
    · cases hf
  · cases hf
section
variable {X : Cx} {W : WX} {x name : Str} {np apos cpos pos pos' : Pos} {e : Expr} {es : List Expr} {ma : En → Res (List D)} {g : List D → List D → Option (List D)} {id : String} {r : PySem.W.Frag → V → List V → Hp → VK → Prop}
theorem ss_mutE (i : Nat) (slot : Slot "list" name id) (hty : typeOf (.builtin id) = pure (.type "method_descriptor")) (hm : MtR X id (r X.K)) (hr : MutE r g) (ha : SA X W (e :: es) ma) (hN : X.N[i]? = some x := by rfl)
    (hv : Vis X.env.scope x := by first | exact Or.inl rfl | exact Or.inr (Or.inl rfl) | exact Or.inr (Or.inr rfl)) (hd : (x == ("__debug__" : Str)) = false := by decide) (hcd : (x == ("__classdict__" : Str)) = false := by decide)
    (hbase : attributeBase (.Name x np) name X.env (eval (.Name x np) X.env) = eval (.Name x np) X.env := by rfl)
    (hfew : ((backTo cpos (starEach (e :: es) X.env)).all (fun x => !x.1) && (backToKw cpos (keywordEach [] X.env)).all (fun x => x.1.isSome)
      && decide ((e :: es).length + ([] : List Keyword).length + (if ([] : List Keyword).isEmpty then 0 else 1) < 30)) = true := by rfl)
    (hline : (apos.endLine == cpos.line) = true := by rfl) (hs : starEach (e :: es) X.env = (false, eval e X.env) :: starEach es X.env := by rfl) (hplain : (backTo cpos (starEach es X.env)).any (·.1) = false := by rfl)
    (hsw : swapsWith (.Call (.Attribute (.Name x np) name apos) (e :: es) [] cpos) none pos.line X.env = pure false := by rfl) :
    SS X W (.Expr (.Call (.Attribute (.Name x np) name apos) (e :: es) [] cpos) pos) (mMut i ma g) := by
  obtain ⟨t, p, s⟩ := ha.ex
  refine ⟨_, ps_expr (pe_bm PySem.F.plainAttrs_list slot hty hm (pe_var hN hv hd hcd) p hbase hfew hline hs hplain) hsw, ?_⟩
  intro B0 H0 env σ B H I D
  unfold mMut
  cases h : env[i]? with
  | none => trivial
  | some c =>
    cases c with
    | un => trivial
    | sh d => trivial
    | ow o =>
      cases o with
      | dct _ _ => trivial
      | dtt _ _ => trivial
      | ins _ _ _ => trivial
      | lst xs =>
      obtain ⟨p, ho, e1, h0, hb, hh, rr⟩ := I.ow i _ h
      obtain ⟨vs, eo, rrl⟩ := repO_lst rr
      subst eo
      have z := simS_at (f := fun ds env => match g xs ds with
        | some ys => .nx (env.set i (.ow (.lst ys)))
        | none => .stuck) (u := fun us H2 => r X.K (.ref p) us H2 fun _ H3 => D.nx σ H3) (D := D) s I fun a v B1 H1 _ x1 I1 r1 => by
          cases e2 : g xs a with
          | none => trivial
          | some ys =>
            obtain ⟨p2, ho2, e3, _, _, hh2, rr2⟩ := I1.ow i _ h
            obtain ⟨vs2, eo2, rrl2⟩ := repO_lst rr2
            subst eo2
            rw [e1] at e3
            cases e3
            obtain ⟨ws, rw', k⟩ := hr X.K B1 H1 p xs a ys vs2 v I1.xs hh2 rrl2 r1 e2
            exact fun q => k _ (q σ B1 _ (I1.mut (o' := .lst _) (ho := .lst _) h e1 (mk_repO rw')))
      exact z.wrap fun z => ⟨.ref p, e1, .inl ⟨rfl, vs, SqL.of hh⟩, z⟩
end

/-! ### d[k] of a table of the module: texts to flat values -/
def lookT (x : Str) : List (Str × D) → Option D
  | [] => none
  | (k, d) :: r => if x = k then some d else lookT x r
def tabD (kvs : List (Str × D)) (d : D) : Option D := match d with
  | .str x => lookT x kvs
  | _ => none
/-- the table in the written part: each key has its text -/
def TabK (K : PySem.W.Frag) (w : World) (a : Addr) (kvs : List (Str × D)) : Prop := ∀ x d, lookT x kvs = some d → ∃ v : V, KDct K w a x v ∧ fv d = some v
theorem tabK_of {K : PySem.W.Frag} {w : World} {a : Addr} {es : Array DictEntry} {n : Nat} (kd : KDict K w a es n) : ∀ {kvs : List (Str × D)} {dvs : List (Str × He.Dv)}, He.valsB K a dvs = true → (∀ x d, lookT x kvs = some d → ∃ u v, (x, u) ∈ dvs ∧ fv d = some v ∧ He.Dv.v K u = v) → TabK K w a kvs := by
  intro kvs dvs h k x d hx
  obtain ⟨u, v, hm, hv, e⟩ := k x d hx
  obtain ⟨y, h1, h2⟩ := He.valsB_ok h hm
  refine ⟨v, ⟨es, n, y, kd.at_, kd.lit, h1, ?_⟩, hv⟩
  rw [← e]
  exact h2
section
variable {X : Cx} {W : WX} {x : Str} {i : Expr} {np pos : Pos} {mi : En → Res D} {a : Addr} {kvs : List (Str × D)}
theorem fv_rep' {K B d v} (h : fv d = some v) : Rep K B d v := by
  cases d with
  | non => cases h; rfl
  | bl b => cases h; rfl
  | int b => cases h; rfl
  | str b => cases h; rfl
  | _ => cases h
theorem se_tab (ht : TabK X.K X.w a kvs) (hm : X.mg x = some (.ref a)) (hi : SE X W RP i mi) (hg : Gl X x := by rfl) (hd : (x == ("__debug__" : Str)) = false := by decide) (hs : PlainIx i := by exact fun _ _ => rfl) :
    SE X W RP (.Subscript (.Name x np) i pos) (mUn (tabD kvs) mi) := by
  obtain ⟨ti, pi, si⟩ := hi.ex
  refine ⟨_, pe_ix ix_kdict (pe_glob (v := .ref a) hg hm rfl hd) pi hs, ?_⟩
  intro B0 H0 env σ B H I
  have q := si B0 H0 env σ B H I
  unfold mUn mB
  cases e : mi env with
  | stuck => trivial
  | exc c fn fv => 
    intro Q z
    rw [e] at q
    exact q _ z
  | ok d =>
    rw [e] at q
    show Post RP X.K W σ B H (ofO (tabD kvs d)) _
    cases d with
    | str z =>
      show Post RP X.K W σ B H (ofO (lookT z kvs)) _
      cases e2 : lookT z kvs with
      | none => trivial
      | some d =>
        obtain ⟨v, hk2, hv⟩ := ht z d e2
        intro Q k
        refine q _ fun y B' H' x r => ?_
        have ey : y = .str z := rep_str r
        subst ey
        exact ⟨a, z, v, rfl, rfl, hk2, k v B' H' x (fv_rep' hv)⟩
    | _ => trivial
end
end Sm

set_option autoImplicit true
set_option Elab.async false
set_option linter.all false
set_option maxRecDepth 100000
set_option maxHeartbeats 4000000
/-! A hook that also carries tables of the module with text keys. -/
namespace Sm
open PySem PySem.Spec PyProof.Rows L2
def obsY (fa : List He.Fa) (fn : List He.DefD) (ts : List He.Tab) (ex : List (PySem.W.Frag → Bool)) (K : PySem.W.Frag) : He.AlT × Bool := (He.obsT fa fn ts K, ex.all fun f => f K)
def obsYG (n : Nat) (fa : List He.Fa) (fn : List He.DefD) (ts : List He.Tab) (ex : List (PySem.W.Frag → Bool)) (g : Addr → Option Obj) : He.AlT × Bool := obsY fa fn ts ex (He.frG g (He.asD g n))
def hookY (n : Nat) (fa : List He.Fa) (fn : List He.DefD) (ts : List He.Tab) (ex : List (PySem.W.Frag → Bool)) : PySem.W.Hook where
  α := He.AlT × Bool
  obs := fun s => obsYG n fa fn ts ex s.heap.get?
  val := fun w => (He.valT fn ts w, true)
  says := fun w h => ∃ K : PySem.W.Frag, K.In h ∧ He.SaysT fa fn ts w K ∧ (ex.all fun f => f K) = true
  of := fun _ _ e => ⟨_, He.frG_in, congrArg Prod.fst e, congrArg Prod.snd e⟩
  keeps := fun _ _ _ ⟨K, hK, c⟩ k => ⟨K, PySem.W.Frag.In.keeps hK k, c⟩
theorem obsYG_eq {n : Nat} {fa : List He.Fa} {fn : List He.DefD} {ts : List He.Tab} {ex : List (PySem.W.Frag → Bool)} {g : Addr → Option Obj} {s : Shared} (h : ∀ a, g a = s.heap.get? a) : obsYG n fa fn ts ex g = (hookY n fa fn ts ex).obs s := by
  have e : g = s.heap.get? := funext h
  rw [e] <;> rfl
structure FactsY (fa : List He.Fa) (fn : List He.DefD) (ts : List He.Tab) (ex : List (PySem.W.Frag → Bool)) (w : World) (K : PySem.W.Frag) (mg : Str → Option Value) : Prop extends FactsZ fa fn ex K mg where
  tb : He.SaysT fa fn ts w K
/-- a table of texts -/
def tabS (kvs : List (Str × Str)) : List (Str × D) := kvs.map fun q => (q.1, .str q.2)
def tabV (kvs : List (Str × Str)) : List (Str × He.Dv) := kvs.map fun q => (q.1, .str q.2)
theorem tabS_look {kvs : List (Str × Str)} {x : Str} {d : D} (h : lookT x (tabS kvs) = some d) : ∃ y, (x, y) ∈ kvs ∧ d = .str y := by
  induction kvs with
  | nil => cases h
  | cons q r ih =>
    have h' : (if x = q.1 then some (D.str q.2) else lookT x (tabS r)) = some d := h
    split at h'
    · rename_i e
      cases h'
      exact ⟨q.2, by rw [e]; exact List.mem_cons_self, rfl⟩
    · obtain ⟨y, h1, h2⟩ := ih h'
      exact ⟨y, List.mem_cons_of_mem _ h1, h2⟩
theorem FactsY.tab {fa : List He.Fa} {fn : List He.DefD} {ts : List He.Tab} {ex : List (PySem.W.Frag → Bool)} {w : World} {K : PySem.W.Frag} {mg : Str → Option Value} (c : FactsY fa fn ts ex w K mg) (i j : Nat) {x : Str} {ks : List Str} {kvs : List (Str × Str)}
    (h : ts[i]? = some (fun K => He.ga K x, ks)) (hv : ex[j]? = some fun K => He.valsB K (He.ga K x) (tabV kvs)) : TabK K w (He.ga K x) (tabS kvs) := by
  obtain ⟨es, n, kd⟩ := c.tb.tab i h
  refine tabK_of (dvs := tabV kvs) kd (c.toFactsZ.tst j hv) fun y d e => ?_
  obtain ⟨z, h1, h2⟩ := tabS_look e
  subst h2
  exact ⟨.str z, .str z, List.mem_map.mpr ⟨_, h1, rfl⟩, rfl, rfl⟩
end Sm

set_option autoImplicit true
set_option Elab.async false
set_option linter.all false
set_option maxRecDepth 100000
set_option maxHeartbeats 4000000
/-! A list of one's own is handed over, and a new list of flat things comes back. -/
namespace Sm
open PySem PySem.Spec PyProof.Rows L2
theorem fvs_reps_back {K H H'} : ∀ {ds : List D} {vs ws : List V}, fvs ds = some ws → Reps K H ds vs → Reps K H' ds vs
  | [], vs, ws, h, r => by simp only [Reps] at r ⊢; exact r
  | d :: ds, vs, ws, h, r => by
    simp only [Reps] at r ⊢
    obtain ⟨v, q, e, h1, h2⟩ := r
    cases e1 : fv d with
    | none => simp [fvs, e1] at h
    | some x =>
      cases e2 : fvs ds with
      | none => simp [fvs, e1, e2] at h
      | some xs => exact ⟨v, q, e, fv_rep_back e1 h1, fvs_reps_back e2 h2⟩
def flatF (r : Res Ob) : Res Ob := match r with
  | .ok (.lst xs) => (match fvs xs with
    | some _ => .ok (.lst xs)
    | none => .stuck)
  | _ => .stuck
def mCallFT (F : List D → Res Ob) (dd : List D) (m : En → Res (List D)) : En → Res Ob := mB m fun ds _ => flatF (F (ds ++ dd))
section
variable {X : Cx} {W : WX} {k : Nat} {f : Addr} {fd : FuncData} {ps : List Str} {dvs : List V} {dvl : List Value} {x : Str} {p pos : Pos} {e : Expr} {es : List Expr} {m : En → Res (List D)} {G : List D → Res Ob} {dd : List D}
theorem se_callFT (Fn : FnOk X.prog X.w X.K X.mg X.base (L2.CX X.prog X.w) k f fd ps (spF X.K G)) (hr : Room k X.A) (tk : Takes X W) (hm : X.mg x = some (.ref f)) (hk : PySem.W.keepIn X.K (.ref f) = true) (hb : Binds X.K fd ps dvl) (hd : Vals dvs dvl) (hdd : ∀ H, Reps X.K H dd dvs)
    (ha : SAT X W (e :: es) m) (hg : Gl X x := by rfl) (hdb : (x == ("__debug__" : Str)) = false := by decide) (he : starEach (e :: es) X.env = (false, eval e X.env) :: starEach es X.env := by rfl) (hpl : (backTo pos (starEach es X.env)).any (·.1) = false := by rfl) :
    SE X W RFO (.Call (.Name x p) (e :: es) [] pos) (mCallFT G dd m) := by
  obtain ⟨t, pa, s⟩ := ha.ex
  refine ⟨_, pe_callSD Fn hr hg hm hk hb hd (fun σ => passAt tk σ) pa hdb he hpl, ?_⟩
  refine Sim.bind (R := RAT) (S := RFO) (u := fun vs σ H Q => spF X.K G (vs ++ dvs) H Q (WE W σ)) s fun B0 H0 env σ B H a v B1 H1 I x r => ?_
  have r1 : Reps X.K H1 (a ++ dd) (v ++ dvs) := (RTs.reps I.xs r).append (hdd H1)
  cases e1 : G (a ++ dd) with
  | stuck => trivial
  | exc c fn fv => trivial
  | ok o =>
    cases o with
    | lst xs =>
      show Post RFO X.K W σ B H (flatF (.ok (.lst xs))) _
      cases e2 : fvs xs with
      | none => simp only [flatF, e2]; trivial
      | some w =>
        simp only [flatF, e2]
        refine fun Q q => ⟨H1, a ++ dd, Ex.refl _, r1, ?_⟩
        rw [e1]
        intro p ho B' H' y h0 h1 h2 r2
        obtain ⟨vs, eo, r3⟩ := repO_lst r2
        refine q (.ref p) B1 H' (x.trans ⟨Ex.refl _, y.h, I.xs.trans y.h, fun _ h _ => h⟩) ⟨p, ho, rfl, x.h.free h0, I.xs.free h0, h2, ?_⟩
        exact ⟨vs, eo, fvs_reps_back e2 r3⟩
    | _ => trivial
end
end Sm

set_option autoImplicit true
set_option Elab.async false
set_option linter.all false
set_option maxRecDepth 100000
namespace Sm
open PySem PySem.Spec PyProof.Rows L2
/-! list.extend of one's own list by a list of things that stay -/
def extG (xs ds : List D) : Option (List D) := match ds with
  | [.lst zs] => if szB (xs.length + zs.length) then some (xs ++ zs) else none
  | _ => none
theorem mut_ext : MutE (fun _ => rExtend) extG := by
  intro K B H l xs ds ys vs us s hH r rs hf
  unfold extG at hf
  split at hf
  · rename_i zs
    split at hf
    · rename_i c
      cases hf
      have hz := szB_ok c
      obtain ⟨v, eu, rv⟩ := reps1 rs
      subst eu
      obtain ⟨b, ws2, rfl, hb2, rb2⟩ := rep_lst rv
      have hw : H b = some (.lst ws2) := s b _ hb2
      exact ⟨vs ++ ws2, r.append rb2, fun Q q => ⟨l, b, vs, ws2, rfl, rfl, hH, hw, by rw [← r.length, ← rb2.length]; omega, q⟩⟩
    · cases hf
  · cases hf
end Sm

set_option autoImplicit true
set_option Elab.async false
set_option linter.all false
set_option maxRecDepth 100000
namespace Sm
open PySem PySem.Spec PyProof.Rows L2
/-! A global of the module that is a constant: data in tuples, found in the written part by a test. -/
def tupO (o : Obj) : Option (List Value) := match o.cls, o.dict, o.data with
  | .type n, none, .seq its _ => if n = "tuple" ∧ its.size ≤ sizeLine then some its.toList else none
  | _, _, _ => none
theorem tupO_ok {o : Obj} {us : List Value} (h : tupO o = some us) : o.cls = .type "tuple" ∧ o.dict = none ∧ ∃ its n, o.data = .seq its n ∧ its.size ≤ sizeLine ∧ us = its.toList := by
  unfold tupO at h
  split at h
  · rename_i n its m e1 e2 e3
    split at h
    · rename_i c
      cases h
      exact ⟨by rw [e1, c.1], e2, its, m, e3, c.2, rfl⟩
    · cases h
  · cases h
mutual
def repB (K : PySem.W.Frag) : D → Value → Bool
  | .non, .none => true
  | .bl b, .bool c => decide (b = c)
  | .int i, .int j _ => decide (i = j)
  | .str x, .str y _ => decide (x = y)
  | .tup ds, .ref a => match List.lookup a K with
    | some o => (match tupO o with
      | some us => repsB K ds us
      | none => false)
    | none => false
  | _, _ => false
def repsB (K : PySem.W.Frag) : List D → List Value → Bool
  | [], [] => true
  | d :: ds, u :: us => repB K d u && repsB K ds us
  | _, _ => false
end
mutual
theorem repB_ok (K : PySem.W.Frag) : ∀ (d : D) (u : Value), repB K d u = true → ∃ v, L2.RelV v u ∧ ∀ H, Rep K H d v
  | .non, u, h => by
    cases u <;> simp only [repB] at h <;> first | exact ⟨.non, rfl, fun H => by simp only [Rep]⟩ | cases h
  | .bl b, u, h => by
    cases u <;> simp only [repB] at h <;> first | cases h | exact ⟨.bl b, by rw [of_decide_eq_true h]; rfl, fun H => by simp only [Rep]⟩
  | .int i, u, h => by
    cases u <;> simp only [repB] at h <;> first | cases h | exact ⟨.int i, by rw [of_decide_eq_true h]; exact ⟨_, rfl⟩, fun H => by simp only [Rep]⟩
  | .str x, u, h => by
    cases u <;> simp only [repB] at h <;> first | cases h | exact ⟨.str x, by rw [of_decide_eq_true h]; exact ⟨_, rfl⟩, fun H => by simp only [Rep]⟩
  | .tup ds, u, h => by
    cases u <;> simp only [repB] at h <;> first | cases h | skip
    rename_i a
    split at h
    · rename_i o e1
      split at h
      · rename_i us e2
        obtain ⟨h1, h2, its, n, h3, h4, rfl⟩ := tupO_ok e2
        obtain ⟨vs, k1, k2⟩ := repsB_ok K ds its.toList h
        exact ⟨.ref a, rfl, fun H => by
          simp only [Rep]
          exact ⟨a, vs, rfl, .inr ⟨o, its, n, e1, h1, h3, h4, k1⟩, .inr ⟨o, e1, h2⟩, k2 H⟩⟩
      · cases h
    · cases h
  | .lst _, u, h => by cases u <;> simp only [repB] at h <;> cases h
  | .scr _, u, h => by cases u <;> simp only [repB] at h <;> cases h
  | .obj _ _ _, u, h => by cases u <;> simp only [repB] at h <;> cases h
  | .dct _ _, u, h => by cases u <;> simp only [repB] at h <;> cases h
  | .dtt _ _, u, h => by cases u <;> simp only [repB] at h <;> cases h
  | .err _ _ _, u, h => by cases u <;> simp only [repB] at h <;> cases h
theorem repsB_ok (K : PySem.W.Frag) : ∀ (ds : List D) (us : List Value), repsB K ds us = true → ∃ vs, Vals vs us ∧ ∀ H, Reps K H ds vs
  | [], us, h => by
    cases us with
    | nil => exact ⟨[], .nil, fun H => by simp only [Reps]⟩
    | cons => simp only [repsB] at h; cases h
  | d :: ds, us, h => by
    cases us with
    | nil => simp only [repsB] at h; cases h
    | cons u us =>
      simp only [repsB, Bool.and_eq_true] at h
      obtain ⟨v, a1, a2⟩ := repB_ok K d u h.1
      obtain ⟨vs, b1, b2⟩ := repsB_ok K ds us h.2
      exact ⟨v :: vs, .cons a1 b1, fun H => by simp only [Reps]; exact ⟨v, vs, rfl, a2 H, b2 H⟩⟩
end
section
variable {X : Cx} {W : WX} {x : Str} {pos : Pos} {d : D} {a : Addr}
theorem se_gconst (hm : X.mg x = some (.ref a)) (h : repB X.K d (.ref a) = true) (hg : Gl X x := by rfl) (hd : (x == ("__debug__" : Str)) = false := by decide) : SE X W RP (.Name x pos) (mC d) := by
  obtain ⟨v, h1, h2⟩ := repB_ok X.K d (.ref a) h
  exact ⟨_, pe_glob hg hm h1 hd, sim_c h2⟩
end
end Sm

set_option autoImplicit true
set_option Elab.async false
set_option linter.all false
set_option maxRecDepth 100000
set_option maxHeartbeats 4000000
/-! try / except C as e, where the handled exception is tracked in the heap; isinstance(e, C), e.f. -/
namespace Sm
open PySem PySem.Spec PyProof.Rows L2
theorem excH_ok {P : Program} {w : World} {H : Hp} {h : Heap} {a C : Addr} {d : Option Addr} {oe : Obj} {vs : Array Value} (g : h.get? a = some oe) (z : Zc (.ref C) d oe) (f : oe.data = .fields vs) : ObjOk P w H h a (excH a C d) :=
  ⟨⟨oe, vs, g, z, f⟩, ⟨oe, g⟩, fun _ _ ⟨o, v, q1, q2, q3⟩ k => ⟨o, v, k o q1, q2, q3⟩⟩
section
variable {X : Cx} {pins : List (Addr × Obj)} {σ : L2.St} {H : Hp} {s : Shared}
/-- an object that stands in the state is tracked from now on -/
theorem Inv.trk (I : Inv X pins σ H s) {a : Addr} {u : HO} {oe : Obj} (g : s.heap.get? a = some oe) (nc : ∀ v, oe.data ≠ .cell v) (hu : ObjOk X.prog X.w (upd H a u) s.heap a u) (na : H a = none) (nL : a ≠ X.env.locals) (n0 : X.s_0.heap.get? a = none) (nP : ∀ p ∈ X.pn ++ pins, p.1 ≠ a) :
    Inv X pins σ (upd H a u) s where
  ok := I.ok
  os := I.os
  bare := I.bare
  base := {
    keep := I.base.keep
    slot := I.base.slot
    free := fun b o e n x => by
      have h1 : b ≠ a := fun z => by rw [z, n0] at e; cases e
      rw [upd_ne h1]; exact I.base.free b o e n x
    there := I.base.there
    tups := fun b xs e => by
      have h1 := I.base.tups b xs e
      rw [upd_ne (ne_of_none h1 na)]; exact h1
    frzs := fun b o v e => by
      have h1 := I.base.frzs b o v e
      rw [upd_ne (ne_of_none h1 na)]; exact h1
    tbls := fun b ps e => by
      obtain ⟨mo, h1⟩ := I.base.tbls b ps e
      exact ⟨mo, by rw [upd_ne (ne_of_none h1 na)]; exact h1⟩ }
  loc := I.loc
  cell := I.cell
  free := by rw [upd_ne nL.symm]; exact I.free
  freeC := fun x c e => by
    have h1 : c ≠ a := fun z => by
      obtain ⟨v, ob, ho, hd⟩ := I.cell x c e
      rw [z, g] at ho; cases ho
      exact nc _ hd
    rw [upd_ne h1]; exact I.freeC x c e
  pin := fun p hp => by
    obtain ⟨p1, p2, p3⟩ := I.pin p hp
    exact ⟨p1, by rw [upd_ne (nP p hp)]; exact p2, p3⟩
  hok := fun b o e => by
    by_cases h1 : b = a
    · subst h1
      rw [upd_same] at e; cases e
      exact hu
    · rw [upd_ne h1] at e
      exact (I.hok b o e).stay (fun _ _ _ q => q) (fun c q => by rw [upd_ne (ne_of_none q na)]; exact q) fun c xs q => by rw [upd_ne (ne_of_none q na)]; exact q
  len := I.len
theorem Inv.inSuite (I : Inv X pins σ H s) (a : Addr) : Inv (X.suite a (X.pn ++ pins)) [] σ H s :=
  { ok := I.ok.suite a _, os := I.os, bare := I.bare, base := I.base, loc := I.loc, cell := I.cell, free := I.free, freeC := I.freeC, pin := fun p hp => I.pin p (by simpa using hp), hok := I.hok, len := I.len }
theorem Inv.outSuite {a : Addr} {pn' : List (Addr × Obj)} (I : Inv (X.suite a (X.pn ++ pins)) pn' σ H s) (ok : X.Ok) : Inv X pins σ H s :=
  { ok := ok, os := I.os, bare := I.bare, base := I.base, loc := I.loc, cell := I.cell, free := I.free, freeC := I.freeC, pin := fun p hp => I.pin p (List.mem_append_left _ hp), hok := I.hok, len := I.len }
end
def endT (i : Nat) (D : Ends) : Ends := { nx := fun τ G => D.nx (τ.set i none) G, rt := D.rt, bk := fun τ G => D.bk (τ.set i none) G, ct := fun τ G => D.ct (τ.set i none) G }
/-- what the clause wishes of an exception -/
def wTr (K : PySem.W.Frag) (c : Value) (i : Nat) (ts : Addr → TS) (Wo : WX) (D : Ends) : WX := fun cls d σ H => ∃ b, PySem.W.exmOne K cls c = some b ∧
  (b = true → ∃ C, cls = .ref C ∧ ∀ a, H a = none → ts a (endT i D) (σ.set i (some (.ref a))) (upd H a (excH a C d))) ∧ (b = false → Wo cls d σ H)
section
variable {X : Cx} {x n : Str} {c : Value} {i : Nat} {body rest : List Stmt} {st : Stmt} {p1 p2 p3 : Pos} {tb : WX → TS} {ts : Addr → TS} {Wo : WX}
/-- an exception of the body -/
theorem try_caught (hs : X.stack = X.env :: X.outer) (hf : X.env.frame = some X.env.locals) (hex : X.ex = []) (hN : X.N.Nodup) (hi : X.N[i]? = some n) (hl : X.env.kindOf n = some .local) (hc : Names X x c) (tk : Takes X Wo)
    (hsu : ∀ (a : Addr) (pn : List (Addr × Obj)), PSs (X.suite a pn) (st :: rest) (ts a)) {pins : List (Addr × Obj)} {D : Ends} (ok : X.Ok) {u : Value} {s1 : Shared}
    (q : XE (X.tr (X.pn ++ pins) fun e s2 => wpAny (model X.prog X.w) X.A (noteFrame e X.env) (fun _ s3 => wpAny (model X.prog X.w) X.A (setFlight e none) (fun _ s4 => wpAny (model X.prog X.w) X.A (handleBy e X.env [.ExceptHandler (some (.Name x p1)) (some n) (st :: rest) p2]) (SP X pins D) X.xe s4) X.xe s3) X.xe s2)
      (wTr X.K c i ts Wo D) u s1) :
    wpAny (model X.prog X.w) X.A (noteFrame u X.env) (fun _ s3 => wpAny (model X.prog X.w) X.A (setFlight u none) (fun _ s4 => wpAny (model X.prog X.w) X.A (handleBy u X.env [.ExceptHandler (some (.Name x p1)) (some n) (st :: rest) p2]) (SP X pins D) X.xe s4) X.xe s3) X.xe s1 := by
  rcases q with ⟨a, B, sI, pj, τ, G, cls, d, rfl, I0, inB, up, sky, na, eos, gens, b, eb, yes, no⟩
  have I : Inv X pins τ G sI := I0.ofTry ok
  have hfr : X.A.frames = some (X.env :: X.outer) := ok.frames.trans (congrArg some hs)
  refine Sky.land (B := B) (Z := Zc cls d) Zc.steady hfr hf (by rw [← hs]; exact sky) fun g1 fl1 up1 => ?_
  have A1 : Inv X pins τ G { s1 with heap := g1 } := I.landed inB fl1.1 (up.trans up1) eos gens
  rcases fl1.there with ⟨ob1, fs1, look1, zc1, dat1⟩
  have aB : B.get? a = none := fl1.2.1
  have aFr : a ∉ frs X.stack := fun hm => by
    rw [hs] at hm
    obtain ⟨_, ob, e1, hnf⟩ := fl1.2.2.1.mem hm
    rw [look1] at e1; cases e1
    exact hnf _ dat1
  have out : ∀ {b : Addr} {o : Obj}, sI.heap.get? b = some o → b ∉ frs X.stack → b ≠ a := fun {b o} e1 e2 z => by
    have e3 := inB b o e1 e2
    rw [z, aB] at e3; cases e3
  have aL : a ≠ X.env.locals := fun z => aFr (by rw [hs]; exact List.mem_filterMap.mpr ⟨X.env, List.mem_cons_self, hf.trans (congrArg some z.symm)⟩)
  have a0 : X.s_0.heap.get? a = none := by
    cases e0 : X.s_0.heap.get? a with
    | none => rfl
    | some o =>
      obtain ⟨o2, e2⟩ := I.base.there a o e0 (by rw [hex]; exact fun z => nomatch z)
      exact absurd rfl (out e2 aFr)
  have aP : ∀ p ∈ X.pn ++ pins, p.1 ≠ a := fun p hp => by
    obtain ⟨k1, _, k3, k4, _⟩ := I.pin p hp
    refine out k1 fun hm => ?_
    rw [hs] at hm
    obtain ⟨ev, he, hq⟩ := List.mem_filterMap.mp hm
    rcases List.mem_cons.mp he with z | z
    · rw [z, hf] at hq
      exact k3 (Option.some.inj hq).symm
    · exact k4 (List.mem_filterMap.mpr ⟨ev, z, hq⟩)
  refine wpAny_handleBy_cons (codeAny_handlers_test ?_) (by intro z; cases z)
  have tyA : PySem.W.Looks (model X.prog X.w) g1 (typeOf (.ref a)) cls := fun _ _ _ _ kk qq => wpAny_typeOf_ref (kk _ _ look1) (by rw [zc1.1]; exact qq)
  have mch := PySem.W.exm_one (M := model X.prog X.w) A1.kIn tyA eb
  have name : ∀ {Q : Value → Shared → Prop} {E : Value → Shared → Prop}, Q c { s1 with heap := g1 } → wpAny (model X.prog X.w) (X.A.mark (some (.ref a))) (eval (.Name x p1) X.env) Q E { s1 with heap := g1 } := fun {Q E} qq => by
    rcases hc with ⟨hg, hdb, hm | ⟨hm, hv, hne⟩⟩
    · exact ld_glob (Inv.inSuite A1 a) hg hm qq hdb
    · exact ld_blt (Inv.inSuite A1 a) hg hm hv qq hne hdb
  refine name (mch.here ?_)
  cases b with
  | false =>
    refine wpAny_handleBy_nil ?_
    obtain ⟨_, _, _, ob, fs, T, _, _, e1, _, e2, e3, _⟩ := id fl1
    unfold PySem.passOn
    have flies : wpAny (model X.prog X.w) X.A (setFlight (.ref a) X.env.frame) (fun _ s4 => wpAny (model X.prog X.w) X.A (throw (.ref a) : Sem Flow) (SP X pins D) X.xe s4) X.xe { s1 with heap := g1 } := by
      rw [hf]
      refine HandSPX.setFlight_upZ fl1 fun g2 held up2 => wpAny_throw (tk _ _ ⟨a, B, sI, pins, τ, G, cls, d, rfl, I, inB, (up.trans up1).trans up2, .inr (.inr ?_), na, eos, gens, no rfl⟩)
      rw [hs]
      exact held
    refine wpAny_bind (wpAny_field e1 e2 e3 ?_)
    rw [if_neg (by simp : ¬ ((Value.ref T == Value.none) = true))]
    first
      | exact wpAny_bind flies
      | exact wpAny_bind (wpAny_pure (wpAny_bind flies))
  | true =>
    obtain ⟨C, rfl, suite⟩ := yes rfl
    refine codeAny_handlers_suite_as (HandSPX.lands_againZ fl1 fun g2 fl2 up2 => ?_)
    have A2 : Inv X pins τ G { s1 with heap := g2 } := I.landed inB fl2.1 ((up.trans up1).trans up2) eos gens
    rcases fl2.there with ⟨ob2, fs2, look2, zc2, dat2⟩
    have A3 := Inv.inSuite (Inv.trk A2 (u := excH a C d) look2 (fun v z => by rw [dat2] at z; cases z) (excH_ok look2 zc2 dat2) na aL a0 aP) a
    refine store_ok (X := X.suite a (X.pn ++ pins)) (v := .ref a) A3 hN hi (.inl hl) rfl (fun s5 A5 => ?_) (.inr hl)
    refine wpAny_mono ((hsu a (X.pn ++ pins)).run [] s5 _ _ _ A5 (suite a na)) (fun f s6 hsp => ?_) fun _ _ z => z.elim
    have leave : ∀ {τ' : L2.St} {G' : Hp} {Q : Shared → Prop}, Inv (X.suite a (X.pn ++ pins)) [] τ' G' s6 → (∀ s7, Inv X pins (τ'.set i none) G' s7 → Q s7) →
        wpAny (model X.prog X.w) X.A (do bindName X.env n .none; unbindBehindTheSuite X.env n p2) (fun _ s7 => Q s7) X.xe s6 := fun {τ' G' Q} A6 k => gone_ok (Inv.outSuite A6 ok) hN hi hl k
    cases f with
    | next => obtain ⟨τ6, G6, A6, r6⟩ := hsp; exact leave A6 fun s7 A7 => ⟨_, _, A7, r6⟩
    | brk => obtain ⟨τ6, G6, A6, r6⟩ := hsp; exact leave A6 fun s7 A7 => ⟨_, _, A7, r6⟩
    | cont => obtain ⟨τ6, G6, A6, r6⟩ := hsp; exact leave A6 fun s7 A7 => ⟨_, _, A7, r6⟩
    | ret v => obtain ⟨v6, τ6, G6, A6, r6, r7⟩ := hsp; exact leave A6 fun s7 A7 => ⟨_, _, _, A7, r6, r7⟩
theorem ps_tryT (hs : X.stack = X.env :: X.outer) (hf : X.env.frame = some X.env.locals) (hex : X.ex = []) (hN : X.N.Nodup) (hi : X.N[i]? = some n) (hl : X.env.kindOf n = some .local) (hc : Names X x c) (tk : Takes X Wo)
    (hb : ∀ (W : WX) (pn : List (Addr × Obj)) (xe : Value → Shared → Prop), Takes (X.tr pn xe) W → PassesOwn (model X.prog X.w) X.A X.env xe → PSs (X.tr pn xe) body (tb W))
    (hsu : ∀ (a : Addr) (pn : List (Addr × Obj)), PSs (X.suite a pn) (st :: rest) (ts a)) :
    PS X (.Try body [.ExceptHandler (some (.Name x p1)) (some n) (st :: rest) p2] [] [] p3) (fun D σ H => tb (wTr X.K c i ts Wo D) D σ H) := by
  refine ⟨fun pins s σ H D I h => wpAny_Try_except ?_⟩
  have ok := I.ok
  refine wpAny_mono ((hb (wTr X.K c i ts Wo D) (X.pn ++ pins) _ (fun u s1 q => try_caught hs hf hex hN hi hl hc tk hsu ok q) PassesOwn.looking).run [] s σ H D (I.toTry _) h) (fun f s1 r => ?_) fun _ _ z => z
  cases f with
  | next => obtain ⟨τ, G, J, q⟩ := r; exact wpAny_execs_nil ⟨τ, G, J.ofTry ok, q⟩
  | brk => obtain ⟨τ, G, J, q⟩ := r; exact ⟨τ, G, J.ofTry ok, q⟩
  | cont => obtain ⟨τ, G, J, q⟩ := r; exact ⟨τ, G, J.ofTry ok, q⟩
  | ret u => obtain ⟨v, τ, G, J, r2, q⟩ := r; exact ⟨v, τ, G, J.ofTry ok, r2, q⟩
end
end Sm

set_option autoImplicit true
set_option Elab.async false
set_option linter.all false
set_option maxRecDepth 100000
set_option maxHeartbeats 4000000
/-! Defs called where an exception is handled (and tracked): they raise nothing there, walk nothing. -/
namespace Sm
open PySem PySem.Spec PyProof.Rows L2
structure RoomC (k : Nat) (A : Around) : Prop where
  dp : A.depth + 3 * k + 5 < recursionLimit
  un : A.units + 16 * k + 200 < cLine
theorem RoomC.mono {j k : Nat} {A : Around} (r : RoomC k A) (h : j ≤ k) : RoomC j A := ⟨by have := r.dp; omega, by have := r.un; omega⟩
theorem RoomC.deeper {k : Nat} {A : Around} (r : RoomC (k + 1) A) (env : Env) : RoomC k (A.deeper env) :=
  ⟨(by have := r.dp; show A.depth + 1 + 3 * k + 5 < _; omega), (by have := r.un; show A.units + 3 + 16 * k + 200 < _; omega)⟩
theorem Room.c {k : Nat} {A : Around} (r : Room k A) : RoomC k A := ⟨r.dp, r.un⟩
theorem RoomC.mark {k : Nat} {A : Around} (r : RoomC k A) (v : Option Value) : RoomC k (A.mark v) := ⟨r.dp, r.un⟩
/-- the context of a def's body there -/
def cxC (CX : CXT) (P : Program) (w : World) (K : PySem.W.Frag) (mg : Str → Option Value) (base : Heap) (N : List Str) (qual : Str) (sc : Scope) (f : Addr) (cd : Value) (A : Around) (outer : List Env) (s : Shared) (H : Hp) (E : XK) : Cx :=
  { cxOf CX P w K mg base N qual sc f cd A outer s H E with calm := false }
structure FnC (P : Program) (w : World) (K : PySem.W.Frag) (mg : Str → Option Value) (base : Heap) (CX : CXT) (k : Nat) (f : Addr) (fd : FuncData) (ps : List Str) (sp : Sp) : Prop where
  len : ∀ vs H Q E, sp vs H Q E → vs.length = ps.length
  run : ∀ (A : Around) (outer : List Env) (s : Shared) (H : Hp) (args : Args) (us : List Value) (vs : List V) (Q : VK) (E : XK), RoomC k A → Env0 P w K mg base A outer s H → BindsTo s fd args (ps.zip us) → Vals vs us → sp vs H Q E → codeAny (model P w) A (.call (.ref f) args) (CR CX outer P w H s Q E) s
section
variable {CX : CXT} {P : Program} {w : World} {K : PySem.W.Frag} {mg : Str → Option Value} {base : Heap} {N ps : List Str} {qual x : Str} {sc : Scope} {f : Addr} {cd : Value} {A : Around} {outer : List Env} {s s1 : Shared} {H : Hp} {E : XK} {k : Nat} {fd : FuncData} {sp : Sp} {params : Arguments} {body : List Stmt} {dvs : List V} {kws : List (Str × V)}
theorem inv_startC {us : List Value} {vs : List V} (S : FnScope N ps sc) (e0 : Env0 P w K mg base A outer s H) (hl : vs.length = ps.length) (r : Vals vs us)
    (y : InCallC s s.heap.objs.size (bindL (envOfC qual sc s.heap.objs.size f cd).kindOf (ps.zip us) fun _ => none) (cellsFrom (s.heap.objs.size + 1) sc.names []) (bindC (envOfC qual sc s.heap.objs.size f cd).kindOf (ps.zip us) fun _ => none) s1) :
    Inv (cxC CX P w K mg base N qual sc f cd A outer s H E) [] (L2.start N vs) H s1 := by
  have J := inv_start (CX := CX) (E := E) S (A := { A with handled := none }) rfl { e0 with frames := e0.frames } hl r y
  have o := J.ok
  exact { J with ok := { o with hd := (fun z => Bool.noConfusion (show false = true from z)), frames := Around.frames_deeper e0.frames } }
theorem FunD.okC (F : FunD K x qual params body sc dvs kws f fd) (S : FnScope N ps sc) (len : ∀ vs H Q E, sp vs H Q E → vs.length = ps.length)
    (hb : ∀ (cd : Value) (A : Around) (outer : List Env) (s : Shared) (H : Hp) (vs : List V) (Q : VK) (E : XK), RoomC k (A.deeper (envOfC qual sc s.heap.objs.size f cd)) → sp vs H Q E →
      ∃ t, PSs (cxC CX P w K mg base N qual sc f cd A outer s H E) body t ∧ t { nx := fun _ G => Q .non G, rt := Q } (L2.start N vs) H) : FnC P w K mg base CX (k + 1) f fd ps sp := by
  obtain ⟨oc, od, dV, kV, doc, pm, an, cdv, ct, osl, rfl, lk, code, _, _⟩ := F.ex
  refine ⟨len, fun A outer s H args us vs Q E room e0 bnd vals hsp => ?_⟩
  have kin : K.In s.heap := e0.mod.kin.keeps fun b o e => (e0.bs b o e).1
  refine codeAny_call_function (by have := room.dp; omega) (kin _ _ lk) rfl S.co S.gen rfl (PySem.W.codeRec_of kin code) (bnd _ _ _ _ (wpAny_newFunctionEnv_cells S.kind (fun q hq => ?_) fun env he s1 y => ?_))
  · rcases S.par q.1 (List.of_mem_zip hq).1 with z | z
    · exact .inl z
    · exact .inr ⟨z, PySem.W.cellsFrom_some _ _ _ (.inl z)⟩
  subst he
  obtain ⟨t, pt, ht⟩ := hb cdv A outer s H vs Q E (room.deeper _) hsp
  have I : Inv (cxC CX P w K mg base N qual sc f cdv A outer s H E) [] (L2.start N vs) H s1 := inv_startC S e0 (len _ _ _ _ hsp) vals y
  have up : s.heap.NoLimit := e0.mod.nolimit.keeps fun b o e => (e0.bs b o e).1
  refine ⟨up.keeps y.toInCall.keep, codeAny_func (wpAny_mono (pt.run [] s1 _ H _ I ht) (fun fl s2 q => ?_) fun _ _ q => q)⟩
  cases fl with
  | brk => obtain ⟨_, _, _, z⟩ := q; exact z.elim
  | cont => obtain ⟨_, _, _, z⟩ := q; exact z.elim
  | next => obtain ⟨σ2, H2, J, z⟩ := q; exact ⟨V.non, H2, J.os, J.bare, J.base, J.hok, rfl, z⟩
  | ret u => obtain ⟨v, σ2, H2, J, rv, z⟩ := q; exact ⟨v, H2, J.os, J.bare, J.base, J.hok, rv, z⟩
end
section
variable {X : Cx} {CX : CXT} {k : Nat} {f : Addr} {fd : FuncData} {ps : List Str} {sp : Sp} {E : L2.St → XK} {x : Str} {p pos : Pos} {e : Expr} {es : List Expr} {t : TA}
theorem pe_callC (F : FnC X.prog X.w X.K X.mg X.base CX k f fd ps sp) (hr : RoomC k X.A) (hm : X.mg x = some (.ref f)) (hk : PySem.W.keepIn X.K (.ref f) = true) (hb : Binds X.K fd ps []) (hx : ∀ σ, PassesAt CX X σ (E σ)) (ha : PA X (e :: es) t)
    (hg : Gl X x := by rfl) (hdb : (x == ("__debug__" : Str)) = false := by decide) (he : starEach (e :: es) X.env = (false, eval e X.env) :: starEach es X.env := by rfl) (hpl : (backTo pos (starEach es X.env)).any (·.1) = false := by rfl) :
    PE X (.Call (.Name x p) (e :: es) [] pos) (tCallSD sp [] E t) := by
  refine ⟨fun pins s σ H Q I h => wpAny_Call_Name_kw (ld_glob I hg hm ?_ hdb)⟩
  refine PySem.W.callWith_K (h₀ := X.base) I.ok.mod.kin hk (thn (ha.run pos pins s σ H _ I h) fun us s1 ⟨vs, H1, I1, r, q⟩ => ⟨I1.kIn, ?_⟩) he hpl
  have q : sp vs H1 Q (E σ) := by simpa only [List.append_nil] using q
  have b := hb s1 us I1.kIn (by rw [List.append_nil, ← r.length]; exact F.len _ _ _ _ q)
  rw [List.append_nil] at b
  refine wpAny_call (codeAny_mono (F.run X.A X.stack s1 H1 ⟨us, []⟩ us vs Q (E σ) hr I1.env0 b r q) fun res s2 hq => ?_)
  cases res with
  | error err => exact hx σ pins H1 s1 err s2 I1 hq
  | ok fl =>
    cases fl with
    | ret u => exact I1.after hq
    | next => exact hq.elim
    | brk => exact hq.elim
    | cont => exact hq.elim
end
end Sm

set_option autoImplicit true
set_option Elab.async false
set_option linter.all false
set_option maxRecDepth 100000
set_option maxHeartbeats 4000000
/-! try / except over mirrors; e.f, isinstance(e, C) for the handled exception; defs called there. -/
namespace Sm
open PySem PySem.Spec PyProof.Rows L2
/-! ### the weakest reading of a block -/
def canS (K : PySem.W.Frag) (W : WX) (m : En → SR) : TS := fun D σ H => ∃ B0 H0 env B, SI K B0 H0 env σ B H ∧ match m env with
  | .nx env' => ∀ σ' B' H', SI K B0 H0 env' σ' B' H' → D.nx σ' H'
  | .bk env' => ∀ σ' B' H', SI K B0 H0 env' σ' B' H' → D.bk σ' H'
  | .ct env' => ∀ σ' B' H', SI K B0 H0 env' σ' B' H' → D.ct σ' H'
  | .rt d => ∀ v B' H', Xt B0 H0 B' H' → Rep K B' d v → D.rt v H'
  | .rf o => ∀ p ho B' H', Xt B0 H0 B' H' → H0 p = none → B' p = none → H' p = some ho → RepO K B' o ho → D.rt (.ref p) H'
  | .exc env' c fn fv => ∀ σ' B' H' od, SI K B0 H0 env' σ' B' H' → XR K B' fn fv od → W (.ref (He.ga K c)) od σ' H'
  | .stuck => False
theorem canS_to {K W t m} (h : SimS K W t m) {D : Ends} {σ H} (c : canS K W m D σ H) : t D σ H := by
  obtain ⟨B0, H0, env, B, I, k⟩ := c
  have z := h B0 H0 env σ B H I D
  unfold PostS at z
  cases e : m env <;> rw [e] at k z <;> first | exact k.elim | exact z k
theorem SB.can {X : Cx} {W : WX} {st : List Stmt} {m : En → SR} (h : SB X W st m) : PSs X st (canS X.K W m) := by
  obtain ⟨t, p, s⟩ := h.ex
  exact ⟨fun pins st σ H D I c => p.run pins st σ H D I (canS_to s c)⟩
/-! ### try -/
/-- behind the suite the name is gone -/
def clrR (i : Nat) : SR → SR
  | .nx env => .nx (env.set i .un)
  | .bk env => .bk (env.set i .un)
  | .ct env => .ct (env.set i .un)
  | .rt d => .rt d
  | .rf o => .rf o
  | _ => .stuck
def handM (i : Nat) (ms : En → SR) (env : En) (c : Str) (fn : List Str) (fv : List D) : Option Bool → SR
  | some true => clrR i (ms (env.set i (.sh (.err c fn fv))))
  | some false => .exc env c fn fv
  | none => .stuck
def tryM (i : Nat) (tab : List (Str × Bool)) (ms : En → SR) : SR → SR
  | .exc env c fn fv => handM i ms env c fn fv (lookB c tab)
  | r => r
def mTry (i : Nat) (tab : List (Str × Bool)) (mb ms : En → SR) : En → SR := fun env => tryM i tab ms (mb env)
def TabE (K : PySem.W.Frag) (c : Value) (tab : List (Str × Bool)) : Prop := ∀ x b, lookB x tab = some b → PySem.W.exmOne K (.ref (He.ga K x)) c = some b
theorem TabE.nil {K c} : TabE K c [] := fun x b h => by cases h
theorem TabE.cons {K c x b tab} (h : PySem.W.exmOne K (.ref (He.ga K x)) c = some b) (t : TabE K c tab) : TabE K c ((x, b) :: tab) := fun y b' e => by
  have e' : (if y = x then some b else lookB y tab) = some b' := e
  split at e'
  · rename_i q
    cases e'
    subst q
    exact h
  · exact t y b' e'
theorem SI.caught {K B0 H0 env σ B H} (I : SI K B0 H0 env σ B H) {c : Str} {fn : List Str} {fv : List D} {od : Option Addr} (x : XR K B fn fv od) {a : Addr} (na : H a = none) (i : Nat) :
    SI K B0 H0 (env.set i (.sh (.err c fn fv))) (σ.set i (some (.ref a))) (upd B a (excH a (He.ga K c) od)) (upd H a (excH a (He.ga K c) od)) := by
  refine (I.xt (Xt.new I.xs na)).setSh i ?_
  simp only [Rep]
  exact ⟨a, od, rfl, upd_same, x.mono (Ex.new (I.xs.free na))⟩
theorem sims_try {K : PySem.W.Frag} {Wo : WX} {c : Value} {i : Nat} {tab : List (Str × Bool)} {mb ms : En → SR} (tb : TabE K c tab) :
    SimS K Wo (fun D σ H => canS K (wTr K c i (fun _ => canS K (fun _ _ _ _ => False) ms) Wo D) mb D σ H) (mTry i tab mb ms) := by
  intro B0 H0 env σ B H I D
  unfold mTry
  have done : ∀ {r : SR}, mb env = r → (match r with
      | .nx env' => ∀ σ' B' H', SI K B0 H0 env' σ' B' H' → D.nx σ' H'
      | .bk env' => ∀ σ' B' H', SI K B0 H0 env' σ' B' H' → D.bk σ' H'
      | .ct env' => ∀ σ' B' H', SI K B0 H0 env' σ' B' H' → D.ct σ' H'
      | .rt d => ∀ v B' H', Xt B0 H0 B' H' → Rep K B' d v → D.rt v H'
      | .rf o => ∀ p ho B' H', Xt B0 H0 B' H' → H0 p = none → B' p = none → H' p = some ho → RepO K B' o ho → D.rt (.ref p) H'
      | .exc env' c' fn fv => ∀ σ' B' H' od, SI K B0 H0 env' σ' B' H' → XR K B' fn fv od → wTr K c i (fun _ => canS K (fun _ _ _ _ => False) ms) Wo D (.ref (He.ga K c')) od σ' H'
      | .stuck => False) → canS K (wTr K c i (fun _ => canS K (fun _ _ _ _ => False) ms) Wo D) mb D σ H := fun e q => ⟨B0, H0, env, B, I, by rw [e]; exact q⟩
  cases e : mb env with
  | stuck => trivial
  | nx env' => exact fun q => done e q
  | bk env' => exact fun q => done e q
  | ct env' => exact fun q => done e q
  | rt d => exact fun q => done e q
  | rf o => exact fun q => done e q
  | exc env' c' fn fv =>
    show PostS K Wo B0 H0 (handM i ms env' c' fn fv (lookB c' tab)) D _
    cases e2 : lookB c' tab with
    | none => trivial
    | some b =>
      have ex := tb c' b e2
      cases b with
      | false => exact fun q => done e fun σ' B' H' od I' x => ⟨false, ex, (fun z => Bool.noConfusion z), fun _ => q σ' B' H' od I' x⟩
      | true =>
        show PostS K Wo B0 H0 (clrR i (ms (env'.set i (.sh (.err c' fn fv))))) D _
        have suite : ∀ {r : SR}, ms (env'.set i (.sh (.err c' fn fv))) = r → (match r with
            | .nx e2 => ∀ σ' B' H', SI K B0 H0 e2 σ' B' H' → (endT i D).nx σ' H'
            | .bk e2 => ∀ σ' B' H', SI K B0 H0 e2 σ' B' H' → (endT i D).bk σ' H'
            | .ct e2 => ∀ σ' B' H', SI K B0 H0 e2 σ' B' H' → (endT i D).ct σ' H'
            | .rt d => ∀ v B' H', Xt B0 H0 B' H' → Rep K B' d v → D.rt v H'
            | .rf o => ∀ p ho B' H', Xt B0 H0 B' H' → H0 p = none → B' p = none → H' p = some ho → RepO K B' o ho → D.rt (.ref p) H'
            | _ => False) → canS K (wTr K c i (fun _ => canS K (fun _ _ _ _ => False) ms) Wo D) mb D σ H := fun {r} er q =>
          done e fun σ' B' H' od I' x => ⟨true, ex, fun _ => ⟨_, rfl, fun a na => ⟨B0, H0, _, _, SI.caught I' x na i, by
            rw [er]
            cases r <;> first | exact q | exact q.elim⟩⟩, fun z => Bool.noConfusion z⟩
        cases e3 : ms (env'.set i (.sh (.err c' fn fv))) with
        | stuck => trivial
        | exc _ _ _ _ => trivial
        | nx e4 => exact fun q => suite e3 fun σ' B' H' I' => q _ B' H' (I'.drop i none)
        | bk e4 => exact fun q => suite e3 fun σ' B' H' I' => q _ B' H' (I'.drop i none)
        | ct e4 => exact fun q => suite e3 fun σ' B' H' I' => q _ B' H' (I'.drop i none)
        | rt d => exact fun q => suite e3 q
        | rf o => exact fun q => suite e3 q
theorem takesF {X : Cx} : Takes X (fun _ _ _ _ => False) := fun _ _ ⟨_, _, _, _, _, _, _, _, _, _, _, _, _, _, _, _, z⟩ => z.elim
section
variable {X : Cx} {W : WX} {x n : Str} {body rest : List Stmt} {st : Stmt} {p1 p2 p3 : Pos} {c : Value} {tab : List (Str × Bool)} {mb ms : En → SR}
theorem ss_try (i : Nat) (tb : TabE X.K c tab) (tk : Takes X W) (hN : X.N.Nodup) (hc : Names X x c) (hb : ∀ (W' : WX) (pn : List (Addr × Obj)) (xe : Value → Shared → Prop), Takes (X.tr pn xe) W' → PassesOwn (model X.prog X.w) X.A X.env xe → SB (X.tr pn xe) W' body mb)
    (hsu : ∀ (a : Addr) (pn : List (Addr × Obj)), Takes (X.suite a pn) (fun _ _ _ _ => False) → SB (X.suite a pn) (fun _ _ _ _ => False) (st :: rest) ms)
    (hs : X.stack = X.env :: X.outer := by rfl) (hf : X.env.frame = some X.env.locals := by rfl) (hex : X.ex = [] := by rfl) (hi : X.N[i]? = some n := by rfl) (hl : X.env.kindOf n = some .local := by rfl) :
    SS X W (.Try body [.ExceptHandler (some (.Name x p1)) (some n) (st :: rest) p2] [] [] p3) (mTry i tab mb ms) :=
  ⟨_, ps_tryT (tb := fun W' => canS X.K W' mb) (ts := fun _ => canS X.K (fun _ _ _ _ => False) ms) hs hf hex hN hi hl hc tk (fun W' pn xe t p => (hb W' pn xe t p).can) fun a pn => (hsu a pn takesF).can, sims_try tb⟩
end
/-! ### e.f -/
section
variable {X : Cx} {W : WX} {e : Expr} {m : En → Res D} {n : Str} {pos : Pos} {te : TE}
def tErrF (K : PySem.W.Frag) (n : Str) (te : TE) : TE := fun σ H Q => te σ H fun x H1 => ∃ a C dd fs v, x = .ref a ∧ H1 a = some (excH a C (some dd)) ∧ XfC K C ∧ PySem.W.findIn K (.ref C) n = some none ∧ H1 dd = some (.xd fs) ∧ fs.lookup n = some v ∧ Q v H1
theorem pe_errf (he : PE X e te) (hb : attributeBase e n X.env (eval e X.env) = eval e X.env := by rfl) : PE X (.Attribute e n pos) (tErrF X.K n te) := by
  refine ⟨fun pins s σ H Q I h => attr_of hb (thn (he.run pins s σ H _ I h) fun u s1 ⟨x, G, J, rx, a, C, dd, fs, v, ex, ea, cls, no, ed, l, q⟩ => ?_)⟩
  subst ex
  obtain rfl : u = Value.ref a := rx
  obtain ⟨⟨oe, vs, g, z, f⟩, _, _⟩ := J.hok a _ ea
  obtain ⟨mA, hns, hr⟩ := (show ObjOk X.prog X.w G s1.heap dd (.xd fs) from J.hok dd _ ed)
  obtain ⟨od, ho, hl⟩ := lookIn_ns hns
  obtain ⟨y, hy, ry⟩ := RelO.some_of (v := v) (o := mA n) (by rw [← l]; exact hr n)
  have at_ : PySem.W.InstAt s1.heap a oe C (some od) := ⟨g, z.1, (by unfold PySem.W.notCls; rw [f] <;> rfl), by rw [z.2]; exact ho⟩
  exact HandSPX.exc_get J.kIn at_ cls.ga cls.gg cls.exC (PySem.W.findObj_own cls.hdC no rfl (by rw [hl, hy])) (handed_of ry) ⟨v, G, J.tok _, ry, q⟩
/-- the classes that may be asked -/
def errFB (c n : Str) (K : PySem.W.Frag) : Bool := xfB K (He.ga K c) && He.eqO (PySem.W.findIn K (.ref (He.ga K c)) n) (some none)
def ErrOk (K : PySem.W.Frag) (cs : List Str) (n : Str) : Prop := ∀ c ∈ cs, errFB c n K = true
theorem ErrOk.nil {K n} : ErrOk K [] n := fun c h => by cases h
theorem ErrOk.cons {K c cs n} (h : errFB c n K = true) (t : ErrOk K cs n) : ErrOk K (c :: cs) n := fun y hy => by
  rcases List.mem_cons.mp hy with rfl | hy
  · exact h
  · exact t y hy
def errFD (cs : List Str) (n : Str) : D → Option D
  | .err c fn fv => if c ∈ cs then (fn.zip fv).lookup n else none
  | _ => none
theorem zip_lookup {K H n} : ∀ {fn : List Str} {fv : List D} {vs : List V}, Reps K H fv vs → ∀ {d : D}, (fn.zip fv).lookup n = some d → ∃ v, (fn.zip vs).lookup n = some v ∧ Rep K H d v
  | [], fv, vs, r, d, h => by simp at h
  | f :: fn, [], vs, r, d, h => by simp at h
  | f :: fn, x :: fv, vs, r, d, h => by
    simp only [Reps] at r
    obtain ⟨v, q, rfl, r1, r2⟩ := r
    simp only [List.zip_cons_cons, List.lookup_cons] at h ⊢
    cases e : n == f with
    | true => rw [e] at h; cases h; exact ⟨v, rfl, r1⟩
    | false => rw [e] at h; exact zip_lookup r2 h
theorem se_errf {cs : List Str} (ok : ErrOk X.K cs n) (h : SE X W RP e m) (hb : attributeBase e n X.env (eval e X.env) = eval e X.env := by rfl) : SE X W RP (.Attribute e n pos) (mUn (errFD cs n) m) := by
  obtain ⟨t, p, s⟩ := h.ex
  refine ⟨_, pe_errf p hb, ?_⟩
  refine Sim.bind (R := RP) (S := RP) (u := fun x σ H1 Q => ∃ a C dd fs v, x = .ref a ∧ H1 a = some (excH a C (some dd)) ∧ XfC X.K C ∧ PySem.W.findIn X.K (.ref C) n = some none ∧ H1 dd = some (.xd fs) ∧ fs.lookup n = some v ∧ Q v H1) s fun B0 H0 env σ B H d v B1 H1 I y r => ?_
  cases d with
  | err c fn fv =>
    show Post RP X.K W σ B H (ofO (if c ∈ cs then (fn.zip fv).lookup n else none)) _
    by_cases hc : c ∈ cs
    · rw [if_pos hc]
      cases e1 : (fn.zip fv).lookup n with
      | none => trivial
      | some d =>
        obtain ⟨k1, k2⟩ := Bool.and_eq_true_iff.mp (ok c hc)
        have r' : Rep X.K B1 (.err c fn fv) v := r
        simp only [Rep] at r'
        obtain ⟨a, od, ev, h1, h2⟩ := r'
        subst ev
        rcases h2 with ⟨z, _⟩ | ⟨dd, vs, eo, h3, h4, h5⟩
        · subst z; simp at e1
        · subst eo
          obtain ⟨v, hv, rv⟩ := zip_lookup h5 e1
          exact fun Q q => ⟨a, _, dd, _, v, rfl, I.xs _ _ h1, xfB_ok k1, He.eqO_ok k2, I.xs _ _ h3, hv, q v B1 H1 y rv⟩
    · rw [if_neg hc]
      trivial
  | _ => trivial
end
/-! ### isinstance(e, C) -/
section
open PySem.W
variable {P : Program} {w : World} {A : Around} {E : Value → Shared → Prop} {s : Shared} {K : Frag} {z C : Addr} {oz : Obj} {od : Option Obj}
theorem err_class {Q : Option Value → Shared → Prop} (T : ExcC K C) (kin : K.In s.heap) (at_ : InstAt s.heap z oz C od) (q : Q (some (.ref C)) { s with toks := s.toks + 1 }) : wpAny (model P w) A (getAttr? (.ref z) "__class__") Q E s := by
  have fnd : findObj K C od "__class__" = some (.bind (.builtin "getset_descriptor.__get__") (.builtin "object.__class__")) := by
    obtain ⟨cd, hcd, _⟩ := any_some T.hd
    unfold findObj
    rw [hcd, Option.bind_some, T.ha, Option.bind_some]
    simp [T.hn, T.ht]
  rcases s with ⟨hp, gs, dr, tk, os⟩
  have t0 := at_.type (M := model P w)
  have t1 := looks_findIn (M := model P w) kin T.hg
  have t2 := looks_findIn (M := model P w) kin T.hk
  have t3 := looks_find (M := model P w) kin at_ fnd
  have t4 : Looks (model P w) hp (isInstance (.ref z) (.type "BaseException")) true := t0.andThen (looks_subIn kin T.hs)
  have e1 : (onTheHeap (Value.ref C) && Value.builtin "BaseException.__getattribute__" == Value.builtin "object.__getattribute__") = false := by
    rw [show (Value.builtin "BaseException.__getattribute__" == Value.builtin "object.__getattribute__") = false by decide +kernel, Bool.and_false]
  unfold getAttr? getAttrBy? getAttrBy
  refine wpAny_bind (wpAny_mkText (wpAny_bind (wpAny_attempt (wpAny_holding (wpAny_bind (t0.at (wpAny_bind (t1.at ?_))))))))
  show wpAny _ _ (if (onTheHeap (Value.ref C) && Value.builtin "BaseException.__getattribute__" == Value.builtin "object.__getattribute__") = true then _ else _) _ _ _
  rw [e1, if_neg (fun z => Bool.noConfusion z)]
  unfold getAttrByItsOwn hookBefore
  refine wpAny_bind ?_
  rw [if_pos (show onTheHeap (Value.ref C) = true from rfl)]
  refine t2.at (wpAny_bind (wpAny_attempt (wpAny_holding ?_)))
  unfold callGetattribute
  rw [show (false && onTheHeap (Value.builtin "BaseException.__getattribute__")) = false from rfl, if_neg (fun z => Bool.noConfusion z)]
  unfold boundAndCalled
  rw [PySem.F.excAttr_ValueError.ga.bind (.ref z)]
  refine wpAny_bind (wpAny_pure ?_)
  show wpAny _ _ (call (.builtin "BaseException.__getattribute__") [.ref z, .str "__class__" tk]) _ _ _
  refine wpAny_call (codeAny_call_builtin PySem.F.excAttr_ValueError.ga.plain PySem.F.entry_bexc_ga ?_)
  refine @check_slot (model P w) _ _ ⟨hp, gs, dr, tk + 1, os⟩ "BaseException.__getattribute__" "BaseException" "__getattribute__" (.ref z) [.str "__class__" tk] [] _ (by decide +kernel) (by decide +kernel) t4 (PySem.F.args_bexc_ga (.ref z) (.str "__class__" tk)) ?_
  unfold Builtin.«object.__getattribute__»
  refine wpAny_bind (wpAny_of_eq (a := ((Value.ref z : Value), [Value.str "__class__" tk])) (by first | rfl | (simp only [slotArgs]; rfl)) ?_)
  refine wpAny_bind (wpAny_pure (wpAny_bind (t0.at (wpAny_bind (t3.at ?_)))))
  show wpAny _ _ (holding [Value.builtin "object.__class__"] (call (.builtin "getset_descriptor.__get__") [.builtin "object.__class__", .ref z, .ref C]) >>= ret) _ _ _
  refine wpAny_bind (wpAny_holding (wpAny_call (class_get (s := ⟨hp, gs, dr, tk + 1, os⟩) (ox := oz) (od := od) kin at_ T.hm ?_)))
  refine wpAny_pure ?_
  show wpAny _ _ (handedOut (.ref C)) _ _ _
  rw [handedOut_of (v := .ref C) rfl]
  first
    | exact wpAny_pure q
    | exact wpAny_pure (wpAny_pure q)
    | exact wpAny_pure (wpAny_bind (wpAny_pure (wpAny_pure q)))
theorem err_kit (T : ExcC K C) : KitX K (.ref z) (.ref C) (fun h => InstAt h z oz C od) := by
  obtain ⟨cd, hcd, _⟩ := any_some T.hd
  unfold clsIn at hcd
  refine ⟨fun _ _ _ I => I.type, fun _ _ kin _ => ?_, fun h tp dd its n sl kin htp => ?_, fun kin I k => err_class T kin I k⟩
  · split at hcd
    · rename_i c' d' cd' sl' ho
      intro A' Q' E' s' k q
      unfold isType loadHead
      exact wpAny_bind (wpAny_loadPart (k _ _ (kin _ _ ho)) (wpAny_pure q))
    · cases hcd
  · refine Bool.eq_false_iff.mpr fun q => ?_
    have e : C = tp := Value.ref.inj (beq_iff_eq.mp q)
    subst e
    split at hcd
    · rename_i c' d' cd' sl' ho
      cases (kin _ _ ho).symm.trans htp
    · cases hcd
end
def rIsT (K : PySem.W.Frag) : List V → Hp → VK → Prop := fun xs H Q => ∃ (a C : Addr) (od : Option Addr) (c : V) (cv : Value) (b : Bool), xs = [.ref a, c] ∧ H a = some (excH a C od) ∧ (od = none ∨ ∃ dd fs, od = some dd ∧ H dd = some (.xd fs)) ∧ ExcC K C ∧
  (∀ u, RelV c u → u = cv) ∧ PySem.W.kitOne K (.ref C) cv = some b ∧ Q (.bl b) H
theorem call_isT {X : Cx} : CallR X (.builtin "isinstance") (rIsT X.K) := by
  intro pins s σ H xs us Q I r h
  obtain ⟨a, C, od, c, cv, b, rfl, ha, hd, T, hcv, e, q⟩ := h
  cases r with
  | cons rx rr =>
    cases rr with
    | cons rt rr =>
      cases rr
      cases rx
      cases hcv _ rt
      obtain ⟨⟨oe, vs, g, z, f⟩, _, _⟩ := I.hok a _ ha
      have at_ : ∃ oo, PySem.W.InstAt s.heap a oe C oo := by
        rcases hd with hd | ⟨dd, fs, hd, hx⟩
        · subst hd
          exact ⟨none, g, z.1, (by unfold PySem.W.notCls; rw [f] <;> rfl), by rw [z.2]; trivial⟩
        · subst hd
          obtain ⟨mA, hns, _⟩ := (show ObjOk X.prog X.w H s.heap dd (.xd fs) from I.hok dd _ hx)
          obtain ⟨oo, ho, _⟩ := lookIn_ns hns
          exact ⟨some oo, g, z.1, (by unfold PySem.W.notCls; rw [f] <;> rfl), by rw [z.2]; exact ho⟩
      obtain ⟨oo, at_⟩ := at_
      exact PySem.W.kia_one (err_kit T) I.kIn at_ e (fun z => nomatch z) fun tk => ⟨.bl b, H, I.kept (t' := tk) fun _ _ z => z, rfl, q⟩
/-- an exception of c, asked for the class cv: b -/
def isEB (c : Str) (cv : PySem.W.Frag → Value) (b : Bool) (K : PySem.W.Frag) : Bool :=
  He.eqO (PySem.W.findIn K (.ref (He.ga K c)) "__getattribute__") (some (some (.builtin "BaseException.__getattribute__"))) && (He.eqO (PySem.W.findIn K (.ref (He.ga K c)) "__getattr__") (some none) && (decide (PySem.W.subIn K (.ref (He.ga K c)) (.type "BaseException") = some true) && (PySem.W.hasDictIn K (He.ga K c) &&
  (He.eqO (PySem.W.findIn K (.ref (He.ga K c)) "__class__") (some (some (.builtin "object.__class__"))) && (He.eqO (PySem.W.specialIn K (.builtin "object.__class__") "__get__") (some (some (.builtin "getset_descriptor.__get__"))) && (decide (PySem.W.takesIn K (.builtin "object.__class__") = some true) &&
  (decide (PySem.W.mroIn K (He.ga K c) (.type "object") = some true) && decide (PySem.W.kitOne K (.ref (He.ga K c)) (cv K) = some b))))))))
theorem isEB_ok {c : Str} {cv : PySem.W.Frag → Value} {b : Bool} {K : PySem.W.Frag} (h : isEB c cv b K = true) : ExcC K (He.ga K c) ∧ PySem.W.kitOne K (.ref (He.ga K c)) (cv K) = some b := by
  obtain ⟨h1, h⟩ := Bool.and_eq_true_iff.mp h
  obtain ⟨h2, h⟩ := Bool.and_eq_true_iff.mp h
  obtain ⟨h3, h⟩ := Bool.and_eq_true_iff.mp h
  obtain ⟨h4, h⟩ := Bool.and_eq_true_iff.mp h
  obtain ⟨h5, h⟩ := Bool.and_eq_true_iff.mp h
  obtain ⟨h6, h⟩ := Bool.and_eq_true_iff.mp h
  obtain ⟨h7, h⟩ := Bool.and_eq_true_iff.mp h
  obtain ⟨h8, h9⟩ := Bool.and_eq_true_iff.mp h
  exact ⟨⟨He.eqO_ok h1, He.eqO_ok h2, of_decide_eq_true h3, h4, He.eqO_ok h5, He.eqO_ok h6, of_decide_eq_true h7, of_decide_eq_true h8⟩, of_decide_eq_true h9⟩
def TabX (K : PySem.W.Frag) (cv : PySem.W.Frag → Value) (tab : List (Str × Bool)) : Prop := ∀ c b, lookB c tab = some b → isEB c cv b K = true
theorem TabX.nil {K cv} : TabX K cv [] := fun x b h => by cases h
theorem TabX.cons {K cv x b tab} (h : isEB x cv b K = true) (t : TabX K cv tab) : TabX K cv ((x, b) :: tab) := fun y b' e => by
  have e' : (if y = x then some b else lookB y tab) = some b' := e
  split at e'
  · rename_i q
    cases e'
    subst q
    exact h
  · exact t y b' e'
def isiE (tab : List (Str × Bool)) (d : D) : Option D := match d with
  | .err c _ _ => (lookB c tab).map .bl
  | _ => none
section
variable {X : Cx} {W : WX} {e : Expr} {m : En → Res D} {p pos px : Pos} {C x : Str} {cv : PySem.W.Frag → Value} {c : V} {T : String}
theorem isT_sim {tab : List (Str × Bool)} {K : PySem.W.Frag} (ok : TabX K cv tab) (hcv : ∀ u, RelV c u → u = cv K) {t : TE} (s : Sim RP K W t m) : Sim RP K W (fun σ H Q => t σ H fun v H1 => rIsT K [v, c] H1 Q) (mUn (isiE tab) m) := by
  refine Sim.bind (R := RP) (S := RP) (u := fun v σ H Q => rIsT K [v, c] H Q) s fun B0 H0 env σ B H d v B1 H1 I y r => ?_
  cases d with
  | err cl fn fv =>
    show Post _ _ _ _ _ _ (ofO ((lookB cl tab).map D.bl)) _
    cases e1 : lookB cl tab with
    | none => trivial
    | some b =>
      have r' : Rep K B1 (.err cl fn fv) v := r
      simp only [Rep] at r'
      obtain ⟨a, od, ev, h1, h2⟩ := r'
      subst ev
      obtain ⟨k1, k2⟩ := isEB_ok (ok cl b e1)
      refine fun Q q => ⟨a, _, od, c, _, b, rfl, I.xs _ _ h1, ?_, k1, hcv, k2, q _ B1 H1 y rfl⟩
      rcases h2 with ⟨_, _, z⟩ | ⟨dd, vs, z, h3, _⟩
      · exact .inl z
      · exact .inr ⟨dd, _, z, I.xs _ _ h3⟩
  | _ => trivial
theorem se_isE {tab : List (Str × Bool)} (ok : TabX X.K (fun K => .ref (He.ga K C)) tab) (hm : X.mg "isinstance" = none) (hx : X.mg x = some (.ref (He.ga X.K C))) (h : SE X W RP e m)
    (hv : bootBuiltins "isinstance" = some (.builtin "isinstance") := by decide +kernel) (hg : Gl X "isinstance" := by rfl) (hgx : Gl X x := by rfl) (hdb : (x == ("__debug__" : Str)) = false := by decide)
    (he : starEach [e, .Name x px] X.env = (false, eval e X.env) :: starEach [.Name x px] X.env := by rfl) (he2 : starEach [.Name x px] X.env = (false, eval (.Name x px) X.env) :: starEach [] X.env := by rfl)
    (hpl : (backTo pos (starEach [.Name x px] X.env)).any (·.1) = false := by rfl) : SE X W RP (.Call (.Name "isinstance" p) [e, .Name x px] [] pos) (mUn (isiE tab) m) := by
  obtain ⟨t, pa, s⟩ := h.ex
  exact ⟨_, pe_callB call_isT hg hm hv (pa_cons pa (pa_cons (pe_glob (v := .ref (He.ga X.K C)) hgx hx rfl hdb) pa_nil he2) he) (by decide) (by decide) he hpl, isT_sim (c := .ref (He.ga X.K C)) ok (fun _ z => z) s⟩
theorem se_isET {tab : List (Str × Bool)} (ok : TabX X.K (fun _ => .type T) tab) (hm : X.mg "isinstance" = none) (hx : X.mg x = none) (h : SE X W RP e m) (hvx : bootBuiltins x = some (.type T) := by decide +kernel)
    (hv : bootBuiltins "isinstance" = some (.builtin "isinstance") := by decide +kernel) (hg : Gl X "isinstance" := by rfl) (hgx : Gl X x := by rfl) (hn : x ≠ "__name__" := by decide) (hdb : (x == ("__debug__" : Str)) = false := by decide)
    (he : starEach [e, .Name x px] X.env = (false, eval e X.env) :: starEach [.Name x px] X.env := by rfl) (he2 : starEach [.Name x px] X.env = (false, eval (.Name x px) X.env) :: starEach [] X.env := by rfl)
    (hpl : (backTo pos (starEach [.Name x px] X.env)).any (·.1) = false := by rfl) : SE X W RP (.Call (.Name "isinstance" p) [e, .Name x px] [] pos) (mUn (isiE tab) m) := by
  obtain ⟨t, pa, s⟩ := h.ex
  exact ⟨_, pe_callB call_isT hg hm hv (pa_cons pa (pa_cons (pe_bltn (v := .ty T) hgx hx hvx rfl hn hdb) pa_nil he2) he) (by decide) (by decide) he hpl, isT_sim (c := .ty T) ok (fun _ z => z) s⟩
end
/-! ### calls there -/
section
variable {P : Program} {w : World} {K : PySem.W.Frag} {mg : Str → Option Value} {base : Heap} {x qual : Str} {params : Arguments} {body : List Stmt} {scope : Scope} {dvs : List V} {kws : List (Str × V)} {f : Addr} {fd : FuncData} {N ps : List Str} {k : Nat} {m : En → SR}
theorem fn_DC (F : FunD K x qual params body scope dvs kws f fd) (S : FnScope N ps scope)
    (hb : ∀ (cdv : Value) (A : Around) (outer : List Env) (s : Shared) (H : Hp) (E : XK), RoomC k (A.deeper (envOfC qual scope s.heap.objs.size f cdv)) → SB (cxC (L2.CX P w) P w K mg base N qual scope f cdv A outer s H E) (fun cls d _ H => E cls d H) body m) :
    FnC P w K mg base (L2.CX P w) (k + 1) f fd ps (spD K (runD N.length ps.length m)) := by
  have len : ∀ vs H Q E, spD K (runD N.length ps.length m) vs H Q E → vs.length = ps.length := fun vs H Q E ⟨B, ds, s, r, h⟩ => by
    by_cases hl : ds.length = ps.length
    · rw [← r.length]; exact hl
    · unfold runD at h
      rw [if_neg hl] at h
      exact h.elim
  refine FunD.okC F S len fun cdv A outer s H vs Q E hr hsp => ?_
  obtain ⟨t, pt, st⟩ := (hb cdv A outer s H E hr).ex
  refine ⟨t, pt, ?_⟩
  have hl := len _ _ _ _ hsp
  obtain ⟨B, ds, sx, r, h⟩ := hsp
  unfold runD at h
  rw [if_pos (r.length.trans hl)] at h
  refine (st B H (envOf N.length ds) (L2.start N vs) B H (SI.start sx r) _).to ?_
  cases e : m (envOf N.length ds) <;> rw [e] at h <;> first | exact h.elim | skip
  · exact fun σ' B' H' I => h .non B' H' I.xt0 rfl
  · exact fun v B' H' y q => h v B' H' y q
  · exact fun σ' B' H' od I q => h od B' H' I.xt0 q
end
section
variable {X : Cx} {W : WX} {k : Nat} {f : Addr} {fd : FuncData} {ps : List Str} {x : Str} {p pos : Pos} {e : Expr} {es : List Expr} {m : En → Res (List D)} {F : List D → Res D}
theorem se_callC (Fn : FnC X.prog X.w X.K X.mg X.base (L2.CX X.prog X.w) k f fd ps (spD X.K F)) (hr : RoomC k X.A) (tk : Takes X W) (hm : X.mg x = some (.ref f)) (hk : PySem.W.keepIn X.K (.ref f) = true) (hb : Binds X.K fd ps [])
    (ha : SA X W (e :: es) m) (hg : Gl X x := by rfl) (hdb : (x == ("__debug__" : Str)) = false := by decide) (he : starEach (e :: es) X.env = (false, eval e X.env) :: starEach es X.env := by rfl) (hpl : (backTo pos (starEach es X.env)).any (·.1) = false := by rfl) :
    SE X W RP (.Call (.Name x p) (e :: es) [] pos) (mCall F [] m) := by
  obtain ⟨t, pa, s⟩ := ha.ex
  refine ⟨_, pe_callC Fn hr hm hk hb (fun σ => passAt tk σ) pa hg hdb he hpl, ?_⟩
  exact Sim.bind (R := RA) (S := RP) (u := fun vs σ H Q => spD X.K F (vs ++ []) H Q (WE W σ)) s fun B0 H0 env σ B H a v B1 H1 I y r => post_D I.xs y (r.append repsNil)
end
end Sm

set_option autoImplicit true
set_option Elab.async false
set_option linter.all false
set_option maxRecDepth 100000
set_option maxHeartbeats 4000000
/-! t[::-1] of a tuple; defaults that are objects; room where an exception is handled. -/
namespace Sm
open PySem PySem.Spec PyProof.Rows L2
theorem units65C {k : Nat} {A : Around} (r : RoomC k A) : A.units + 65 < cLine := by have := r.un; omega
theorem units64C {k : Nat} {A : Around} (r : RoomC k A) : A.units + 64 < cLine := by have := r.un; omega
theorem units1C {k : Nat} {A : Around} (r : RoomC k A) : A.units + 1 < cLine := by have := r.un; omega
/-! ### defaults -/
theorem rep_ref {K : PySem.W.Frag} {d : D} {a : Addr} (h : repB K d (.ref a) = true) (H : Hp) : Rep K H d (.ref a) := by
  obtain ⟨v, h1, h2⟩ := repB_ok K d (.ref a) h
  cases v with
  | ref b =>
    have e : Value.ref a = Value.ref b := h1
    cases e
    exact h2 H
  | int i => obtain ⟨t, z⟩ := h1; cases z
  | str i => obtain ⟨t, z⟩ := h1; cases z
  | byt i => obtain ⟨t, z⟩ := h1; cases z
  | flt i => obtain ⟨t, z⟩ := h1; cases z
  | _ => cases h1
theorem repsC {K : PySem.W.Frag} {H : Hp} {d : D} {v : V} {ds : List D} {vs : List V} (r : Rep K H d v) (rs : Reps K H ds vs) : Reps K H (d :: ds) (v :: vs) := by
  simp only [Reps]
  exact ⟨v, vs, rfl, r, rs⟩
/-! ### t[::-1] -/
section
variable {P : Program} {w : World} {A : Around} {E : Value → Shared → Prop} {s : Shared}
theorem applied_rev {sl : Addr} {u : Tok} {n : Nat} {Q : Int × Int × Nat → Shared → Prop} (hs : s.heap.IsSliceOf sl .none .none (.int (-1) u)) (h : Q ((n : Int) - 1, -1, n) s) : wpAny (model P w) A (Builtin.Slice.sliceApplied (.ref sl) (pure (n : Int))) Q E s := by
  obtain ⟨os, g, _, f⟩ := id hs
  unfold Builtin.Slice.sliceApplied Builtin.Slice.sliceFields
  refine wpAny_bind (wpAny_bind (wpAny_field g f (x := .none) rfl (wpAny_bind (wpAny_field g f (x := .none) rfl (wpAny_bind (wpAny_field g f (x := .int (-1) u) rfl (wpAny_pure ?_)))))))
  refine wpAny_bind (HT.slicePart_ (.int (-1) u) ?_)
  show wpAny _ _ (if ((-1 : Int) == 0) = true then _ else _) _ _ s
  rw [if_neg (by decide)]
  refine wpAny_bind (HT.slicePart_ .none (wpAny_bind (HT.slicePart_ .none (wpAny_bind (wpAny_pure ?_)))))
  have e : Builtin.Slice.slicePlaces ((n : Int) - 1) (-1) (-1) = n := by
    unfold Builtin.Slice.slicePlaces
    simp only [show ¬ ((-1 : Int) > 0) by decide, if_false, show (- -1 : Int) = 1 by decide, Int.ediv_one]
    split <;> omega
  show wpAny _ _ (pure ((n : Int) - 1, (-1 : Int), Builtin.Slice.slicePlaces ((n : Int) - 1) (-1) (-1))) _ _ s
  rw [e]
  exact wpAny_pure h
theorem fm_congr {α β : Type} {f g : α → Option β} : ∀ {l : List α}, (∀ x ∈ l, f x = g x) → l.filterMap f = l.filterMap g
  | [], _ => rfl
  | a :: l, h => by
    rw [List.filterMap_cons, List.filterMap_cons, h a List.mem_cons_self, fm_congr fun x hx => h x (List.mem_cons_of_mem _ hx)]
theorem pick_rev (xs : Array Value) : ((List.range xs.size).filterMap fun (k : Nat) => xs[((xs.size : Int) - 1 + (k : Int) * -1).toNat]?).toArray = xs.toList.reverse.toArray := by
  have e : ((List.range xs.size).filterMap fun (k : Nat) => xs[((xs.size : Int) - 1 + (k : Int) * -1).toNat]?) = ((List.range xs.size).map fun k => xs.size - 1 - k).filterMap fun k => xs[k]? := by
    rw [List.filterMap_map]
    refine fm_congr fun k hk => ?_
    have := List.mem_range.mp hk
    have q : ((xs.size : Int) - 1 + (k : Int) * -1).toNat = xs.size - 1 - k := by omega
    simp only [Function.comp_apply, q]
  rw [e, PySem.W.krv_range, List.filterMap_reverse, PySem.W.krv_all]
theorem item_rev {t sl : Addr} {items : Array Value} {u : Tok} {Q : Value → Shared → Prop} (ht : IsTup s.heap t items) (hs : s.heap.IsSliceOf sl .none .none (.int (-1) u)) (hz : items.size ≤ sizeLine)
    (h : Q (.ref s.heap.objs.size) { s with heap := s.heap.push { cls := .type "tuple", data := .seq items.toList.reverse.toArray } }) : wpAny (model P w) A (getItem (.ref t) (.ref sl)) Q E s := by
  obtain ⟨os, g, hc, f⟩ := id hs
  have ts : s.TypeIs (.ref sl) "slice" := ⟨os, g, hc⟩
  unfold getItem
  try with_reducible refine wpAny_holding ?_
  first | refine wpAny_bind (wpAny_pure ?_) | skip
  refine wpAny_bind (wpAny_sequenceKey ht.typeIs (by decide) (wpAny_bind ?_))
  refine wpAny_callSpecial?_slot (name := Str.ofString "__getitem__") ht.typeIs PyProof.Rows.slot_tuple_getitem (wpAny_call_entry PyProof.Rows.slot_tuple_getitem ht.typeIs entry_tuple_getitem ?_ (args_tuple_getitem _ _))
  show wpAny _ _ (Builtin.Tuple.tupleItemsOf (.ref t) >>= _) _ _ s
  refine wpAny_bind (tupleItemsOf_ ht (wpAny_bind (wpAny_typeOf ts ?_)))
  rw [if_pos (by decide)]
  refine wpAny_bind (applied_rev hs ?_)
  have hno : ¬ ((((items.size : Int) - 1) == 0 && (-1 : Int) == 1 && items.size == items.size) = true) := by simp
  show wpAny _ _ (if ((((items.size : Int) - 1) == 0 && (-1 : Int) == 1 && items.size == items.size) = true) then _ else _) _ _ s
  rw [if_neg hno, pick_rev]
  have ok : sizeOk (.seq items.toList.reverse.toArray) := by
    show items.toList.reverse.toArray.size ≤ sizeLine
    rw [List.size_toArray, List.length_reverse, Array.length_toList]
    exact hz
  have lay : sizeOk (.seq items.toList.reverse.toArray) := ok
  first
    | exact wpAny_bind (m := Builtin.Tuple.tupleExact _) (wpAny_newObj_type (wpAny_pure ⟨_, rfl, wpAny_pure h⟩) lay)
    | exact wpAny_bind (m := Builtin.Tuple.tupleExact _) (wpAny_newObj_type (wpAny_bind (wpAny_pure (wpAny_pure ⟨_, rfl, wpAny_pure h⟩))) lay)
    | exact wpAny_bind (wpAny_bind (m := Builtin.Tuple.tupleExact _) (wpAny_newObj_type (wpAny_pure (wpAny_pure ⟨_, rfl, wpAny_pure h⟩)) lay))
end
section
variable {X : Cx} {W : WX} {e : Expr} {k : Nat} {p1 p2 p3 pos : Pos} {te : TE} {me : En → Res D}
def tRevT (K : PySem.W.Frag) (te : TE) : TE := fun σ H Q => te σ H fun x H1 => ∃ a xs, x = .ref a ∧ SqT K H1 a xs ∧ qTup xs.reverse H1 Q
theorem pe_revT (he : PE X e te) : PE X (.Subscript e (.Slice none none (some (.UnaryOp .USub (.Constant (.int 1) k p1) p2)) p3) pos) (tRevT X.K te) := by
  refine ⟨fun pins s σ H Q I h => Subscript_ (thn (he.run pins s σ H _ I h) fun v s1 ⟨x, G, J, r1, a, xs, ex, hx, q⟩ => ?_)⟩
  subst ex
  cases r1
  have stp : PO X (some (.UnaryOp .USub (.Constant (.int 1) k p1) p2)) (tPart (tUn (rU fun i => .int (-i)) (tC (.int 1)))) := po_some (pe_un un_neg pe_int)
  refine wpAny_Slice (thn (po_none.run pins s1 σ G (fun o G2 => o = none ∧ G2 = G) J ⟨rfl, rfl⟩) fun vl s2 ⟨l, G2, J2, pl, el, e2⟩ => ?_)
  subst el e2
  refine thn (po_none.run pins s2 σ G2 (fun o G3 => o = none ∧ G3 = G2) J2 ⟨rfl, rfl⟩) fun vu s3 ⟨u, G3, J3, pu, eu, e3⟩ => ?_
  subst eu e3
  refine thn (stp.run pins s3 σ G3 (fun o G4 => o = some (-1) ∧ G4 = G3) J3 ⟨1, rfl, -1, rfl, rfl, rfl⟩) fun vs s4 ⟨o, G4, J4, ps, eo, e4⟩ => ?_
  subst eo e4
  cases pl
  cases pu
  cases ps with
  | int _ tk =>
    have J5 : Inv X pins σ G4 { s4 with heap := s4.heap.push { cls := .type "slice", data := .fields #[.none, .none, .int (-1) tk] } } := J4.kept (t' := s4.toks) fun b ob q => Heap.get?_push_of_some _ q
    obtain ⟨its, r, ht, hz⟩ := J5.tuple hx
    have hlen := r.length
    show wpAny (model X.prog X.w) X.A (subscriptTail e (.Slice none none (some (.UnaryOp .USub (.Constant (.int 1) k p1) p2)) p3) (.ref a) (.ref s4.heap.objs.size)) (EP X pins σ Q) X.xe { s4 with heap := s4.heap.push { cls := .type "slice", data := .fields #[.none, .none, .int (-1) tk] } }
    refine tail_any (ops := [.ref a, .ref s4.heap.objs.size]) ht.typeIs PyProof.Rows.slot_tuple_getitem.lookup ?_ (by with_unfolding_all rfl)
    refine item_rev ht (Heap.IsSliceOf.new _ .none .none (.int (-1) tk)) (by rw [List.size_toArray]; omega) ?_
    exact ⟨.ref _, _, Inv.tupZ (tk := s4.toks) J5 (fun _ _ z => z) (by rw [List.length_reverse]; exact hz) r.reverse, rfl, q _ _ (J5.hok.fresh (Nat.le_refl _)) rfl⟩
def revT : D → Option D
  | .tup xs => some (.tup xs.reverse)
  | _ => none
theorem se_revT (he : SE X W RT e me) : SE X W RP (.Subscript e (.Slice none none (some (.UnaryOp .USub (.Constant (.int 1) k p1) p2)) p3) pos) (mUn revT me) := by
  obtain ⟨t, p, s⟩ := he.ex
  refine ⟨_, pe_revT p, ?_⟩
  refine Sim.bind (R := RT) (S := RP) (u := fun x σ G Q => ∃ a xs, x = .ref a ∧ SqT X.K G a xs ∧ qTup xs.reverse G Q) s fun B0 H0 env σ B H d v B1 H1 I x r => ?_
  cases d with
  | tup xs =>
    rcases r with r | ⟨_, _, _, z, _⟩
    · have r' : Rep X.K B1 (.tup xs) v := r
      simp only [Rep] at r'
      obtain ⟨a, vs, ev, h1, _, h3⟩ := r'
      subst ev
      exact fun Q q => ⟨a, vs, rfl, Ex.t I.xs h1, qTup.ok I.xs h3.reverse fun w B' H' y r2 => q w B' H' (x.trans y) r2⟩
    · cases z
  | _ => trivial
end
end Sm

set_option autoImplicit true
set_option Elab.async false
set_option linter.all false
set_option maxRecDepth 100000
set_option maxHeartbeats 4000000
/-! zip of two tuples or of two lists, its pairs known to bear no names of their own. -/
namespace Sm
open PySem PySem.Spec PyProof.Rows L2
/-- the two sequences as they stand at each turn, their items in new pairs -/
def ItzZ (Sq : Hp → List V → Prop) (Sr : Hp → List V → Prop) : It where
  go := fun i H => ∃ (xs ys : List V) (x y : V), Sq H xs ∧ Sr H ys ∧ xs[i]? = some x ∧ ys[i]? = some y
  yld := fun i H v H' => ∃ T x y o, v = .ref T ∧ H T = none ∧ Obj.dict o = none ∧ H' = upd H T (.frz o (.tup [x, y])) ∧ (∀ xs, Sq H xs → xs[i]? = some x) ∧ ∀ ys, Sr H ys → ys[i]? = some y
  stop := fun i H => ∃ xs ys : List V, Sq H xs ∧ Sr H ys ∧ (xs.length ≤ i ∨ ys.length ≤ i)
section
variable {P : Program} {w : World} {K : PySem.W.Frag} {elts : List Expr} {kk : Nat} {tpos : Pos} {a b z TI TO i1 i2 : Addr}
/-- what zip's object is at turn i, its two iterators told by R1, R2 -/
def ZAt (R1 R2 : Heap → Nat → Prop) (z TI TO i1 i2 : Addr) (i : Nat) (h : Heap) : Prop := IsZip h z TI TO .none ∧ IsPair h TI (.ref i1) (.ref i2) ∧ (∃ x y, IsPair h TO x y) ∧ R1 h i ∧ R2 h i
theorem zat_mem {c : Addr} (h : c ∈ [z, TI, TO, i1, i2]) : c = z ∨ c = TI ∨ c = TO ∨ c = i1 ∨ c = i2 := by simpa using h
theorem zat_out {c : Addr} (h : c ∉ [z, TI, TO, i1, i2]) : c ≠ z ∧ c ≠ TI ∧ c ≠ TO ∧ c ≠ i1 ∧ c ≠ i2 := by simpa using h
theorem turn_zipZ (D : ZipApart z TI TO i1 i2 a b) {Sq Sr : Hp → List V → Prop} {R1 R2 : Heap → Nat → Prop}
    (r1 : ∀ h i, R1 h i → ∃ o vs, h.get? i1 = some o ∧ o.data = .fields vs) (r2 : ∀ h i, R2 h i → ∃ o vs, h.get? i2 = some o ∧ o.data = .fields vs)
    (k1 : ∀ h h' i, R1 h i → (∀ o, h.get? i1 = some o → h'.get? i1 = some o) → R1 h' i) (k2 : ∀ h h' i, R2 h i → (∀ o, h.get? i2 = some o → h'.get? i2 = some o) → R2 h' i)
    (v1 : ∀ (X : Cx) (pins : List (Addr × Obj)) (s : Shared) (σ : L2.St) (H : Hp), X.K = K → Inv X pins σ H s → ∀ xs, Sq H xs → ∃ its, Vals xs its) (v2 : ∀ (X : Cx) (pins : List (Addr × Obj)) (s : Shared) (σ : L2.St) (H : Hp), X.K = K → Inv X pins σ H s → ∀ xs, Sr H xs → ∃ its, Vals xs its)
    (u1 : ∀ (X : Cx) (pins : List (Addr × Obj)) (s : Shared) (σ : L2.St) (H : Hp), X.K = K → Inv X pins σ H s → ∀ xs ys, Sq H xs → Sq H ys → xs = ys) (u2 : ∀ (X : Cx) (pins : List (Addr × Obj)) (s : Shared) (σ : L2.St) (H : Hp), X.K = K → Inv X pins σ H s → ∀ xs ys, Sr H xs → Sr H ys → xs = ys)
    (step : ∀ (X : Cx) (pins : List (Addr × Obj)) (s : Shared) (σ : L2.St) (H : Hp) (E : Value → Shared → Prop) (i : Nat) (xs ys : List V) (x y : V), X.prog = P → X.w = w → X.K = K → X.calm = true → Inv X pins σ H s → ZAt R1 R2 z TI TO i1 i2 i s.heap → Sq H xs → Sr H ys → xs[i]? = some x → ys[i]? = some y → ∀ Q : Option Value → Shared → Prop,
      (∀ h' u v, RelV x u → RelV y v → IsZip h' z TI TO (rawInt s.heap.objs.size) → IsPair h' TO u v ∨ (∃ x y, IsPair h' TO x y) → R1 h' (i + 1) → R2 h' (i + 1) → h'.get? s.heap.objs.size = some { cls := .type "tuple", data := .seq #[u, v] } → (∀ c o, c ≠ z → c ≠ TO → c ≠ i1 → c ≠ i2 → s.heap.get? c = some o → h'.get? c = some o) → Q (some (.ref s.heap.objs.size)) { s with heap := h' }) →
      wpAny (model P w) X.A (pyNext (.ref z)) Q E s)
    (stop : ∀ (X : Cx) (pins : List (Addr × Obj)) (s : Shared) (σ : L2.St) (H : Hp) (E : Value → Shared → Prop) (i : Nat) (xs ys : List V), X.prog = P → X.w = w → X.K = K → X.calm = true → Inv X pins σ H s → ZAt R1 R2 z TI TO i1 i2 i s.heap → Sq H xs → Sr H ys → (xs.length ≤ i ∨ ys.length ≤ i) → ∀ Q : Option Value → Shared → Prop,
      (∀ h', (∀ c o, c ≠ z → c ≠ TO → c ≠ i1 → c ≠ i2 → s.heap.get? c = some o → h'.get? c = some o) → Q none { s with heap := h' }) → wpAny (model P w) X.A (pyNext (.ref z)) Q E s) :
    Turn P w K (.Tuple elts kk tpos) (ItzZ Sq Sr) [z, TI, TO, i1, i2] z (ZAt R1 R2 z TI TO i1 i2) where
  mem := List.mem_cons_self
  obj := fun i h st c hc => by
    obtain ⟨q1, q2, ⟨x, y, q3⟩, q4, q5⟩ := st
    obtain ⟨o1, f1, g1, d1⟩ := r1 _ _ q4
    obtain ⟨o2, f2, g2, d2⟩ := r2 _ _ q5
    rcases zat_mem hc with e | e | e | e | e <;> subst e
    · exact ⟨_, q1, fun v q => nomatch q⟩
    · exact ⟨_, q2, fun v q => nomatch q⟩
    · exact ⟨_, q3, fun v q => nomatch q⟩
    · exact ⟨o1, g1, fun v q => by rw [d1] at q; cases q⟩
    · exact ⟨o2, g2, fun v q => by rw [d2] at q; cases q⟩
  keep := fun i h h' st k => by
    obtain ⟨q1, q2, ⟨x, y, q3⟩, q4, q5⟩ := st
    exact ⟨k z (by simp) _ q1, k TI (by simp) _ q2, ⟨x, y, k TO (by simp) _ q3⟩, k1 _ _ _ q4 fun o q => k i1 (by simp) o q, k2 _ _ _ q5 fun o q => k i2 (by simp) o q⟩
  item := by
    intro X hP hw hK hc i pins s σ H E I hf st hg
    obtain ⟨xs, ys, x, y, s1, s2, e1, e2⟩ := hg
    refine step X pins s σ H E i xs ys x y hP hw hK hc I st s1 s2 e1 e2 _ fun h' u v ru rv z' TO' h1' h2' hT hk => ?_
    obtain ⟨q1, q2, ⟨x0, y0, q3⟩, q4, q5⟩ := st
    have zl : z < s.heap.objs.size := Heap.lt_size q1
    subst hP hw hK
    refine ⟨_, rfl, wpAny_letOwnedTupleGo_zip (s := { s with heap := h' }) z' fun h'' z'' sb => ?_⟩
    have hT2 : h''.get? s.heap.objs.size = some { cls := .type "tuple", data := .seq #[u, v] } := (sb.2 _ (Nat.ne_of_gt zl)).trans hT
    have new : ObjOk X.prog X.w (upd H s.heap.objs.size (.frz { cls := .type "tuple", data := .seq #[u, v] } (.tup [x, y]))) h'' s.heap.objs.size (.frz { cls := .type "tuple", data := .seq #[u, v] } (.tup [x, y])) :=
      ⟨hT2, (by show 2 ≤ sizeLine; decide), [u, v], .cons ru (.cons rv .nil), _, hT2, rfl, _, rfl⟩
    have J := I.turnedNew (t' := s.toks) (ch := [z, TI, TO, i1, i2]) (fun c o hb q => by
      obtain ⟨n1, n2, n3, n4, n5⟩ := zat_out hb
      exact (sb.2 c n1).trans (hk c o n1 n3 n4 n5 q)) hf (Nat.le_refl _) new
    refine ⟨.ref s.heap.objs.size, _, J, rfl, ⟨_, x, y, _, rfl, I.hok.fresh (Nat.le_refl _), rfl, rfl, fun l hl => by rw [u1 X pins s σ H rfl I _ _ hl s1]; exact e1, fun l hl => by rw [u2 X pins s σ H rfl I _ _ hl s2]; exact e2⟩, ⟨z'', (sb.2 _ D.TIz).trans (hk _ _ D.TIz D.TITO D.TIi1 D.TIi2 q2), ?_, k1 _ _ _ h1' fun o q => (sb.2 _ D.i1z).trans q, k2 _ _ _ h2' fun o q => (sb.2 _ D.i2z).trans q⟩, fun c hcm => ?_⟩
    · rcases TO' with q | ⟨x', y', q⟩
      · exact ⟨u, v, (sb.2 _ D.TOz).trans q⟩
      · exact ⟨x', y', (sb.2 _ D.TOz).trans q⟩
    · have lt : c < s.heap.objs.size := by
        obtain ⟨o1, f1, g1, _⟩ := r1 _ _ q4
        obtain ⟨o2, f2, g2, _⟩ := r2 _ _ q5
        rcases zat_mem hcm with e | e | e | e | e <;> subst e
        · exact zl
        · exact Heap.lt_size q2
        · exact Heap.lt_size q3
        · exact Heap.lt_size g1
        · exact Heap.lt_size g2
      rw [upd_ne (Nat.ne_of_lt lt)]
      exact (hf c hcm).1
  done := by
    intro X hP hw hK hc i pins s σ H E I hf st hg
    obtain ⟨xs, ys, s1, s2, e⟩ := hg
    refine stop X pins s σ H E i xs ys hP hw hK hc I st s1 s2 e _ fun h' hk => ⟨rfl, I.turnedL (t' := s.toks) (ch := [z, TI, TO, i1, i2]) (fun c o hb q => ?_) hf⟩
    obtain ⟨n1, n2, n3, n4, n5⟩ := zat_out hb
    exact hk c o n1 n3 n4 n5 q
  self := fun _ _ _ _ _ st h => wpAny_pyIter_zip st.1 h
theorem turn_zipTT (D : ZipApart z TI TO i1 i2 a b) : Turn P w K (.Tuple elts kk tpos) (ItzZ (fun H xs => SqT K H a xs) fun H xs => SqT K H b xs) [z, TI, TO, i1, i2] z (ZAt (fun h i => h.IsTupleIter i1 a i) (fun h i => h.IsTupleIter i2 b i) z TI TO i1 i2) := by
  refine turn_zipZ D (fun h i ⟨o, g, _, d⟩ => ⟨o, _, g, d⟩) (fun h i ⟨o, g, _, d⟩ => ⟨o, _, g, d⟩) (fun h h' i r k => r.at k) (fun h h' i r k => r.at k) (fun X pins s σ H hK I xs q => ?_) (fun X pins s σ H hK I xs q => ?_) (fun X pins s σ H hK I xs ys q1 q2 => ?_) (fun X pins s σ H hK I xs ys q1 q2 => ?_)
    (fun X pins s σ H E i xs ys x y hP hw hK hc I st s1 s2 e1 e2 Q hq => ?_) fun X pins s σ H E i xs ys hP hw hK hc I st s1 s2 e Q hq => ?_
  · subst hK; obtain ⟨its, r, _⟩ := I.tuple q; exact ⟨its, r⟩
  · subst hK; obtain ⟨its, r, _⟩ := I.tuple q; exact ⟨its, r⟩
  · subst hK; exact I.tuple_inj q1 q2
  · subst hK; exact I.tuple_inj q1 q2
  · subst hP hw hK
    obtain ⟨its1, rv1, p1, _⟩ := I.tuple s1
    obtain ⟨its2, rv2, p2, _⟩ := I.tuple s2
    obtain ⟨u, hu, ru⟩ := rv1.get e1
    obtain ⟨v, hv, rv⟩ := rv2.get e2
    obtain ⟨q1, q2, ⟨x0, y0, q3⟩, q4, q5⟩ := st
    exact RZ.pyNext_zipT_item D q1 q2 q3 q4 q5 p1 p2 (x := u) (y := v) (by simpa using hu) (by simpa using hv) fun h' z' TO' h1' h2' hT _ hk => hq h' u v ru rv z' (.inr ⟨_, _, TO'⟩) h1' h2' hT fun c o n1 n2 n3 n4 => hk c o n1 n2 n3 n4
  · subst hP hw hK
    obtain ⟨its1, rv1, p1, _⟩ := I.tuple s1
    obtain ⟨its2, rv2, p2, _⟩ := I.tuple s2
    obtain ⟨q1, q2, ⟨x0, y0, q3⟩, q4, q5⟩ := st
    have l1 := rv1.length
    have l2 := rv2.length
    refine RZ.pyNext_zipT_end (I.ok.hd hc) D q1 q2 q3 q4 q5 p1 p2 ?_ fun h' hk => hq h' fun c o n1 n2 n3 n4 => hk c o n1 n2 n3 n4
    rcases e with e | e
    · exact .inl (by simp; omega)
    · exact .inr (by simp; omega)
theorem turn_zipLL (D : ZipApart z TI TO i1 i2 a b) : Turn P w K (.Tuple elts kk tpos) (ItzZ (fun H xs => SqL K H a xs) fun H xs => SqL K H b xs) [z, TI, TO, i1, i2] z (ZAt (fun h i => h.IsListIter i1 a i) (fun h i => h.IsListIter i2 b i) z TI TO i1 i2) := by
  refine turn_zipZ D (fun h i ⟨o, g, _, d⟩ => ⟨o, _, g, d⟩) (fun h i ⟨o, g, _, d⟩ => ⟨o, _, g, d⟩) (fun h h' i r k => r.at k) (fun h h' i r k => r.at k) (fun X pins s σ H hK I xs q => ?_) (fun X pins s σ H hK I xs q => ?_) (fun X pins s σ H hK I xs ys q1 q2 => ?_) (fun X pins s σ H hK I xs ys q1 q2 => ?_)
    (fun X pins s σ H E i xs ys x y hP hw hK hc I st s1 s2 e1 e2 Q hq => ?_) fun X pins s σ H E i xs ys hP hw hK hc I st s1 s2 e Q hq => ?_
  · subst hK; obtain ⟨its, r, _⟩ := I.list q; exact ⟨its, r⟩
  · subst hK; obtain ⟨its, r, _⟩ := I.list q; exact ⟨its, r⟩
  · subst hK; exact I.list_inj q1 q2
  · subst hK; exact I.list_inj q1 q2
  · subst hP hw hK
    obtain ⟨its1, rv1, p1, _⟩ := I.list s1
    obtain ⟨its2, rv2, p2, _⟩ := I.list s2
    obtain ⟨u, hu, ru⟩ := rv1.get e1
    obtain ⟨v, hv, rv⟩ := rv2.get e2
    obtain ⟨q1, q2, ⟨x0, y0, q3⟩, q4, q5⟩ := st
    exact wpAny_pyNext_zip_item D q1 q2 q3 q4 q5 p1.isList p2.isList (x := u) (y := v) (by simpa using hu) (by simpa using hv) fun h' z' TO' h1' h2' hT _ hk => hq h' u v ru rv z' (.inr ⟨_, _, TO'⟩) h1' h2' hT fun c o n1 n2 n3 n4 => hk c o n1 n2 n3 n4
  · subst hP hw hK
    obtain ⟨its1, rv1, p1, _⟩ := I.list s1
    obtain ⟨its2, rv2, p2, _⟩ := I.list s2
    obtain ⟨q1, q2, ⟨x0, y0, q3⟩, q4, q5⟩ := st
    have l1 := rv1.length
    have l2 := rv2.length
    refine wpAny_pyNext_zip_end (I.ok.hd hc) D q1 q2 q3 q4 q5 p1.isList p2.isList ?_ fun h' hk => hq h' fun c o n1 n2 n3 n4 => hk c o n1 n2 n3 n4
    rcases e with e | e
    · exact .inl (by simp; omega)
    · exact .inr (by simp; omega)
end
def iZipZ (K : PySem.W.Frag) (ta : TA) : TI := fun σ H R => ta σ H fun vs H1 => ∃ a b xs ys, vs = [.ref a, .ref b] ∧ ((SqL K H1 a xs ∧ SqL K H1 b ys ∧ R (ItzZ (fun H xs => SqL K H a xs) fun H xs => SqL K H b xs) H1) ∨ (SqT K H1 a xs ∧ SqT K H1 b ys ∧ R (ItzZ (fun H xs => SqT K H a xs) fun H xs => SqT K H b xs) H1))
section
variable {X : Cx} {e e2 : Expr} {ta : TA} {p pos tpos : Pos} {elts : List Expr} {kk : Nat}
theorem pi_zipZ (hg : Gl X "zip") (hm : X.mg "zip" = none) (ha : PA X [e, e2] ta) (hs : starEach [e, e2] X.env = (false, eval e X.env) :: starEach [e2] X.env := by rfl) (hpl : (backTo pos (starEach [e2] X.env)).any (·.1) = false := by rfl) :
    PI X (.Tuple elts kk tpos) (.Call (.Name "zip" p) [e, e2] [] pos) (iZipZ X.K ta) := by
  refine ⟨fun pins s σ H R I h => Call_ (ld_blt I hg hm PyProof.Rows.boot_zip (PyProof.Rows.callWith_type1 (thn (ha.run pos pins s σ H _ I h) fun us s1 ⟨vs, G, J, rr, a, b, xs, ys, ev, q⟩ => ?_) hs hpl))⟩
  subst ev
  cases rr with
  | cons ra rr =>
    cases rr with
    | cons rb rr =>
      cases rr
      cases ra
      cases rb
      have five : ∀ c ∈ [s1.heap.objs.size + 4, s1.heap.objs.size + 2, s1.heap.objs.size + 3, s1.heap.objs.size, s1.heap.objs.size + 1], FpOk X pins G c := fun c hc => by
        have le : s1.heap.objs.size ≤ c := by
          rcases zat_mem hc with e | e | e | e | e <;> rw [e] <;> first | exact Nat.le_refl _ | exact Nat.le_add_right _ _
        exact J.fpOk le (J.hok.fresh le)
      rcases q with ⟨s1', s2', q⟩ | ⟨s1', s2', q⟩
      · obtain ⟨its1, _, p1, _⟩ := J.list s1'
        obtain ⟨its2, _, p2, _⟩ := J.list s2'
        refine call_zip_2 p1.isList p2.isList fun h' hz hTI hTO h1 h2 _ hk => wpAny_pyIter_zip hz ?_
        exact ⟨_, _, _, _, G, rfl, J.kept (t' := s1.toks) hk, turn_zipLL (PySem.W.ktu_apart s1.heap.objs.size a b p1.lt p2.lt), ⟨hz, hTI, ⟨_, _, hTO⟩, h1, h2⟩, five, q⟩
      · obtain ⟨its1, _, p1, _⟩ := J.tuple s1'
        obtain ⟨its2, _, p2, _⟩ := J.tuple s2'
        obtain ⟨o1, g1, _⟩ := id p1
        obtain ⟨o2, g2, _⟩ := id p2
        refine RZ.call_zipT (show s1.heap.IsTuple a its1.toArray from p1) (show s1.heap.IsTuple b its2.toArray from p2) fun h' hz hTI hTO h1 h2 _ hk => wpAny_pyIter_zip hz ?_
        exact ⟨_, _, _, _, G, rfl, J.kept (t' := s1.toks) hk, turn_zipTT (PySem.W.ktu_apart s1.heap.objs.size a b (Heap.lt_size g1) (Heap.lt_size g2)), ⟨hz, hTI, ⟨_, _, hTO⟩, h1, h2⟩, five, q⟩
end
/-! over mirrors -/
def zipD : List D → List D → List D
  | d :: ds, e :: es => .tup [d, e] :: zipD ds es
  | _, _ => []
theorem zipD_at : ∀ (j : Nat) (ds es : List D), (zipD ds es)[j]? = (match ds[j]?, es[j]? with
  | some d, some e => some (.tup [d, e])
  | _, _ => none)
  | j, [], es => by cases es <;> simp [zipD]
  | j, d :: ds, [] => by cases j <;> simp [zipD] <;> cases ds[_]? <;> rfl
  | 0, d :: ds, e :: es => rfl
  | j + 1, d :: ds, e :: es => by
    show (zipD ds es)[j]? = _
    rw [zipD_at j ds es]
    rfl
def zipK : D → D → Res (List D)
  | .lst xs, .lst ys => .ok (zipD xs ys)
  | .tup xs, .tup ys => .ok (zipD xs ys)
  | _, _ => .stuck
def mZipI (m n : En → Res D) (f : D → En → Option En) : En → Res (List (En → Option En)) := mB (mCons m (mCons n mNil)) fun ds _ => match ds with
  | [d, e] => (zipK d e).bind fun xs => .ok (xs.map f)
  | _ => .stuck
theorem zipD_len : ∀ (ds es : List D), (zipD ds es).length = min ds.length es.length
  | [], es => by cases es <;> simp [zipD]
  | d :: ds, [] => by simp [zipD]
  | d :: ds, e :: es => by
    show (zipD ds es).length + 1 = _
    rw [zipD_len ds es, List.length_cons, List.length_cons]
    omega
theorem walk_zip {K g f sl B1} (Sq Sr : Hp → List V → Prop) (m1 : ∀ {H H'} {xs}, Ex H H' → Sq H xs → Sq H' xs) (m2 : ∀ {H H'} {xs}, Ex H H' → Sr H xs → Sr H' xs) (ok : TgOk K g f sl) {xs ys : List D} {vs us : List V} (h1 : Sq B1 vs) (h2 : Sr B1 us) (r1 : Reps K B1 xs vs) (r2 : Reps K B1 ys us) :
    Walk K B1 (ItzZ Sq Sr) g sl ((zipD xs ys).map f) := by
  have l1 := r1.length
  have l2 := r2.length
  refine ⟨fun i B' H' hi x1 x2 => ?_, fun B' H' x1 x2 => ?_, fun i b B0 H0 env env1 σ B' H' hb e I x1 y H2 hy Q q => ?_⟩
  · rw [List.length_map, zipD_len] at hi
    obtain ⟨v, hv, _⟩ := r1.get (List.getElem?_eq_getElem (show i < xs.length by omega))
    obtain ⟨u, hu, _⟩ := r2.get (List.getElem?_eq_getElem (show i < ys.length by omega))
    exact ⟨vs, us, v, u, m1 x2 (m1 x1 h1), m2 x2 (m2 x1 h2), hv, hu⟩
  · refine ⟨vs, us, m1 x2 (m1 x1 h1), m2 x2 (m2 x1 h2), ?_⟩
    rw [List.length_map, zipD_len]
    omega
  · rw [List.getElem?_map, zipD_at] at hb
    cases e1 : xs[i]? with
    | none => simp [e1] at hb
    | some d =>
      cases e2 : ys[i]? with
      | none => simp [e1, e2] at hb
      | some d2 =>
        simp only [e1, e2, Option.map_some, Option.some.injEq] at hb
        subst hb
        obtain ⟨v, hv, rv⟩ := r1.get e1
        obtain ⟨u, hu, ru⟩ := r2.get e2
        obtain ⟨T, x, y', o, eT, hT, ho, eH, hx, hy'⟩ := hy
        subst eT eH
        have ex := hx vs (m1 I.xs (m1 x1 h1))
        have ey := hy' us (m2 I.xs (m2 x1 h2))
        rw [hv] at ex
        rw [hu] at ey
        cases ex
        cases ey
        have xt : Xt B' H' (upd B' T (.frz o (.tup [v, u]))) (upd H' T (.frz o (.tup [v, u]))) := Xt.new I.xs hT
        refine ok B0 H0 env env1 σ _ _ _ (.ref T) (I.xt xt) ?_ e Q fun σ2 B2 H3 I2 x2 d2 => q σ2 B2 H3 I2 (xt.trans x2) d2
        exact mk_tupZ upd_same ho (repsC ((rv.mono x1).mono xt.b) (repsC ((ru.mono x1).mono xt.b) repsNil))
theorem sim_zipI {K W t m g f sl} (ok : TgOk K g f sl) {ml : En → Res (List D)} (h : Sim RA K W t ml) (hm : ml = mCons m (mCons n mNil)) : Sim (RI g sl) K W (iZipZ K t) (mZipI m n f) := by
  subst hm
  refine Sim.bind (R := RA) (S := RI g sl) (u := fun vs σ H1 R => ∃ a b xs ys, vs = [.ref a, .ref b] ∧ ((SqL K H1 a xs ∧ SqL K H1 b ys ∧ R (ItzZ (fun H xs => SqL K H a xs) fun H xs => SqL K H b xs) H1) ∨ (SqT K H1 a xs ∧ SqT K H1 b ys ∧ R (ItzZ (fun H xs => SqT K H a xs) fun H xs => SqT K H b xs) H1))) h fun B0 H0 env σ B H ds vs B1 H1 I x r => ?_
  have r' : Reps K B1 ds vs := r
  match ds, r' with
  | [], _ => trivial
  | [_], _ => trivial
  | _ :: _ :: _ :: _, _ => trivial
  | [d, e], r' =>
    simp only [Reps] at r'
    obtain ⟨v, q1, ev, rv, u, q2, eu, ru, eq⟩ := r'
    subst eq eu ev
    cases d with
    | lst xs =>
      cases e with
      | lst ys =>
        obtain ⟨a, vs, e1, h1, h2⟩ := rep_lst rv
        obtain ⟨b, us, e2, h3, h4⟩ := rep_lst ru
        subst e1 e2
        exact fun Q q => ⟨a, b, vs, us, rfl, .inl ⟨I.xs.l (SqL.of h1), I.xs.l (SqL.of h3), q _ B1 H1 x (walk_zip (fun H xs => SqL K H a xs) (fun H xs => SqL K H b xs) (fun e h => e.l h) (fun e h => e.l h) ok (SqL.of h1) (SqL.of h3) h2 h4)⟩⟩
      | _ => trivial
    | tup xs =>
      cases e with
      | tup ys =>
        obtain ⟨a, vs, e1, h1, _, h2⟩ := rep_tup rv
        obtain ⟨b, us, e2, h3, _, h4⟩ := rep_tup ru
        subst e1 e2
        exact fun Q q => ⟨a, b, vs, us, rfl, .inr ⟨I.xs.t h1, I.xs.t h3, q _ B1 H1 x (walk_zip (fun H xs => SqT K H a xs) (fun H xs => SqT K H b xs) (fun e h => e.t h) (fun e h => e.t h) ok h1 h3 h2 h4)⟩⟩
      | _ => trivial
    | _ => trivial
section
variable {X : Cx} {W : WX} {elts : List Expr} {kk : Nat} {tpos : Pos} {e e2 : Expr} {p pos : Pos} {m n : En → Res D} {f : D → En → Option En} {sl : List Nat}
theorem ic_zip (hm : X.mg "zip" = none) (h : SE X W RP e m) (h2 : SE X W RP e2 n) (hg : Gl X "zip" := by rfl) (hs : starEach [e, e2] X.env = (false, eval e X.env) :: starEach [e2] X.env := by rfl) (hs2 : starEach [e2] X.env = (false, eval e2 X.env) :: starEach [] X.env := by rfl)
    (hpl : (backTo pos (starEach [e2] X.env)).any (·.1) = false := by rfl) : SIc X W (.Tuple elts kk tpos) (.Call (.Name "zip" p) [e, e2] [] pos) f (mZipI m n f) := by
  obtain ⟨t, pa, s⟩ := (sp_cons h (sp_cons h2 sp_nil hs2) hs).ex
  exact ⟨_, pi_zipZ hg hm pa hs hpl, fun g sl ok => sim_zipI ok s rfl⟩
theorem si_zip (hm : X.mg "zip" = none) (h : SE X W RP e m) (h2 : SE X W RP e2 n) (k : STg X (.Tuple elts kk tpos) f sl) (hg : Gl X "zip" := by rfl) (hs : starEach [e, e2] X.env = (false, eval e X.env) :: starEach [e2] X.env := by rfl) (hs2 : starEach [e2] X.env = (false, eval e2 X.env) :: starEach [] X.env := by rfl)
    (hpl : (backTo pos (starEach [e2] X.env)).any (·.1) = false := by rfl) : SIt X W (.Tuple elts kk tpos) (.Call (.Name "zip" p) [e, e2] [] pos) (mZipI m n f) := (ic_zip hm h h2 hg hs hs2 hpl).it k
end
end Sm

set_option autoImplicit true
set_option Elab.async false
set_option linter.all false
set_option maxRecDepth 100000
set_option maxHeartbeats 4000000
/-! A comprehension over a list of one's own. -/
namespace Sm
open PySem PySem.Spec PyProof.Rows L2
def itemsT : D → Res (List D)
  | .lst xs => .ok xs
  | _ => .stuck
def mSeqT (m : En → Res D) (f : D → En → Option En) : En → Res (List (En → Option En)) := mB m fun d _ => (itemsT d).bind fun xs => .ok (xs.map f)
theorem sim_seqT {K W t m g f sl} (ok : TgOk K g f sl) (h : Sim RT K W t m) : Sim (RIT g sl) K W (iSeq K t) (mSeqT m f) := by
  refine Sim.bind (R := RT) (S := RIT g sl) (u := fun x σ H1 R => (∃ a, x = V.ref a ∧ (∃ xs, SqL K H1 a xs) ∧ R (Itl K a) H1) ∨ (∃ a, x = V.ref a ∧ (∃ xs, SqT K H1 a xs) ∧ R (Itt K a) H1) ∨ ∃ z, x = V.str z ∧ R (Its z) H1) h fun B0 H0 env σ B H d v B1 H1 I x r => ?_
  cases d with
  | lst xs =>
    obtain ⟨a, vs, e1, h1, hr⟩ := r.list I.xs
    subst e1
    refine fun Q q => .inl ⟨a, rfl, ⟨vs, SqL.of h1⟩, q _ B1 H1 x ⟨fun i B' H' hi x1 y1 x2 => ?_, fun B' H' x1 y1 x2 => ?_, fun i b B0 H0 env env1 σ B' H' hb e I x1 y1 y H2 hy Q q => ?_⟩⟩
    · rw [List.length_map] at hi
      obtain ⟨w, hw, _⟩ := hr.get (List.getElem?_eq_getElem hi)
      exact ⟨vs, w, y1.l (SqL.of h1), hw⟩
    · exact ⟨vs, y1.l (SqL.of h1), by rw [List.length_map, hr.length]; exact Nat.le_refl _⟩
    · rw [List.getElem?_map] at hb
      cases e1 : xs[i]? with
      | none => rw [e1] at hb; cases hb
      | some d =>
        rw [e1] at hb
        cases hb
        obtain ⟨w, hw, rw'⟩ := hr.get e1
        obtain ⟨eH, hy⟩ := hy
        subst eH
        have ey := hy vs (y1.l (SqL.of h1))
        rw [hw] at ey
        cases ey
        exact ok B0 H0 env env1 σ B' _ d _ I (rw'.mono x1) e Q q
  | _ => trivial
section
variable {X : Cx} {W : WX} {tg iter : Expr} {f : D → En → Option En} {me : En → Res D}
theorem ic_seqT (h : SE X W RT iter me) : SIcT X W tg iter f (mSeqT me f) := let ⟨_, p, s⟩ := h.ex; ⟨_, pi_seq p, fun _ _ ok => sim_seqT ok s⟩
end
end Sm

set_option autoImplicit true
set_option Elab.async false
set_option linter.all false
set_option maxRecDepth 100000
set_option maxHeartbeats 4000000
/-! Slices and sums of things whose kind is not told by the text: a new list is given away at once. -/
namespace Sm
open PySem PySem.Spec PyProof.Rows L2
/-- a new list, at once for good -/
theorem lay_lst {K : PySem.W.Frag} {B H : Hp} {p : Addr} {xs : List D} {vs : List V} (s : Ex B H) (hp : H p = none) (r : Reps K B xs vs) : Xt B H (upd B p (.lst vs)) (upd H p (.lst vs)) ∧ Rep K (upd B p (.lst vs)) (.lst xs) (.ref p) :=
  ⟨Xt.new s hp, mk_lst upd_same (r.mono (Ex.new (s.free hp)))⟩
def slX (d : D) (lo hi : Option Int) : Res D := match d with
  | .lst xs => .ok (.lst (cutD xs lo hi))
  | .scr ns => .ok (.lst (cutD (ns.map .int) lo hi))
  | d => slD d lo hi
section
variable {X : Cx} {W : WX} {e a b : Expr} {lo hi : Option Expr} {p2 pos : Pos} {m ma mb : En → Res D} {ml mh : En → Res (Option Int)}
theorem se_slX (h : SE X W RT e m) (h1 : SO X W lo ml) (h2 : SO X W hi mh) : SE X W RP (.Subscript e (.Slice lo hi none p2) pos) (mSl slX m ml mh) := by
  obtain ⟨t, p, s⟩ := h.ex
  obtain ⟨tl, q1, s1⟩ := h1.ex
  obtain ⟨th, q2, s2⟩ := h2.ex
  refine ⟨_, pe_slice ((sl_str.or sl_tupZ).or sl_list) p q1 q2, ?_⟩
  refine sim_sl late_P (fun B H G x d lo hi z sx rx hf Q q => ?_) (fun d lo hi c fn fv z => ?_) s s1 s2
  · cases d with
    | str w =>
      cases rep_str (rx.rep sx)
      have hf' : (if szB w.length = true then (Res.ok (.str (cutS w lo hi)) : Res D) else .stuck) = .ok z := hf
      split at hf'
      · rename_i c
        cases hf'
        exact .inl (.inl ⟨w, rfl, szB_ok c, q _ B H (Xt.refl sx) rfl⟩)
      · cases hf'
    | tup xs =>
      obtain ⟨a, vs, e1, h1, n1, r1⟩ := rep_tup (rx.stay fun _ z => nomatch z)
      cases hf
      refine .inl (.inr ⟨a, vs, e1, sx.t h1, fun ⟨z1, z2⟩ => ?_, fun _ => qTup.ok sx r1.cut q⟩)
      have ec : cutD xs lo hi = xs := by
        unfold cutD
        rw [r1.length, z1, z2, Nat.sub_zero, List.drop_zero, ← r1.length, List.take_length]
      rw [ec] at q
      exact q _ B H (Xt.refl sx) (mk_tup h1 n1 r1)
    | lst xs =>
      obtain ⟨a, vs, e1, h1, r1⟩ := rx.list sx
      cases hf
      refine .inr ⟨a, vs, e1, SqL.of h1, fun p hp => ?_⟩
      obtain ⟨k1, k2⟩ := lay_lst sx hp (r1.cut (lo := lo) (hi := hi))
      exact q _ _ _ k1 k2
    | scr ns =>
      have hr := rx.rep sx
      simp only [Rep] at hr
      obtain ⟨a, e1, h1⟩ := hr
      cases hf
      refine .inr ⟨a, _, e1, h1, fun p hp => ?_⟩
      obtain ⟨k1, k2⟩ := lay_lst sx hp ((reps_ints (K := X.K) (B := B) ns).cut (lo := lo) (hi := hi))
      exact q _ _ _ k1 k2
    | _ => cases hf
  · cases d <;> first | (cases z; done) | (unfold slX slD at z; dsimp only at z; split at z <;> cases z)
def addX (d e : D) : Option D := match d, e with
  | .lst xs, .lst ys => if szB (xs.length + ys.length) then some (.lst (xs ++ ys)) else none
  | d, e => addD d e
theorem sr_addX {K : PySem.W.Frag} {r : R2} (h : SR2 RP K r addD) : SR2 RP K (fun x y H Q => r x y H Q ∨ rCat x y H Q) addX := by
  intro B H x y d e z s rx ry hf Q q
  have old : addD d e = some z → r x y H Q := fun hf => h B H x y d e z s rx ry hf Q q
  cases d with
  | lst xs =>
    cases e with
    | lst ys =>
      have hf' : (if szB (xs.length + ys.length) = true then some (D.lst (xs ++ ys)) else none) = some z := hf
      split at hf'
      · rename_i c
        cases hf'
        obtain ⟨a, vs, e1, h1, r1⟩ := rx.list s
        obtain ⟨b, us, e2, h2, r2⟩ := ry.list s
        refine .inr ⟨a, b, vs, us, e1, e2, h1, h2, by rw [← r1.length, ← r2.length]; exact szB_ok c, fun p hp => ?_⟩
        obtain ⟨k1, k2⟩ := lay_lst s hp (r1.append r2)
        exact q _ _ _ k1 k2
      · cases hf'
    | _ => exact .inl (old hf)
  | _ => exact .inl (old hf)
theorem se_addX (ha : SE X W RT a ma) (hb : SE X W RT b mb) : SE X W RP (.BinOp a .Add b pos) (mOp addX ma mb) := se_op late_P (op_addD.or op_cat) (sr_addX sr_addD) ha hb
end
end Sm

set_option autoImplicit true
set_option Elab.async false
set_option linter.all false
set_option maxRecDepth 100000
set_option maxHeartbeats 4000000
namespace K49
open PySem PySem.Spec PyProof.Rows L2 Sm
abbrev topS (i : Nat) : Stmt := topAt PySem.Challenge.pw_leavetaking_k49_peeling_whole i
abbrev s_frozen : Stmt := topS 1
abbrev s_is_letter : Stmt := topS 17
abbrev s_limits : Stmt := topS 20
abbrev s_law_whole : Stmt := topS 25
abbrev s_law_same : Stmt := topS 26
abbrev s_law_cell : Stmt := topS 27
abbrev s_law_digits : Stmt := topS 28
abbrev s_law_order : Stmt := topS 29
abbrev s_law_names : Stmt := topS 30
abbrev s_law_taking : Stmt := topS 31
abbrev s_law_ties : Stmt := topS 32
abbrev s_law_seen : Stmt := topS 33
abbrev s_law_explains : Stmt := topS 34
abbrev s_law_fits : Stmt := topS 35
abbrev s_law_orders : Stmt := topS 36
abbrev s_law_free : Stmt := topS 37
abbrev s_law_peeled : Stmt := topS 38
abbrev s_law_stuck : Stmt := topS 39
abbrev s_law_left : Stmt := topS 40
abbrev s_law_lots : Stmt := topS 42
abbrev s_Peel___init__ : Stmt := memAt (topS 3) 0
abbrev s_BadName___init__ : Stmt := memAt (topS 9) 0
abbrev s_TakenName___init__ : Stmt := memAt (topS 10) 0
abbrev s_BadDepth___init__ : Stmt := memAt (topS 11) 0
abbrev s_BadTaking___init__ : Stmt := memAt (topS 12) 0
abbrev s_BadTie___init__ : Stmt := memAt (topS 13) 0
abbrev s_Seen_is_held : Stmt := memAt (topS 19) 2
abbrev s_is_stuck : Stmt := topS 5
abbrev s_next_off : Stmt := topS 6
abbrev s_is_name : Stmt := topS 15
abbrev s_own_names : Stmt := topS 16
abbrev s_checked_depths : Stmt := topS 21
abbrev s_checked_takings : Stmt := topS 22
abbrev s_checked_ties : Stmt := topS 23
abbrev s_law_judged : Stmt := topS 43
abbrev s_law_right : Stmt := topS 44
abbrev s_Seen___init__ : Stmt := memAt (topS 19) 0
abbrev s_Seen_tied : Stmt := memAt (topS 19) 1
abbrev s_peel : Stmt := topS 4
abbrev s_law_made : Stmt := topS 41
abbrev s_law_asked : Stmt := topS 45
abbrev s_law : Stmt := topS 46
def fn : List He.DefD := [dfK "frozen" s_frozen [] [],
  dfK "_is_letter" s_is_letter [] [],
  dfK "_limits" s_limits [] [],
  dfK "_law_whole" s_law_whole [] [],
  dfK "_law_same" s_law_same [] [],
  dfK "_law_cell" s_law_cell [] [],
  dfK "_law_digits" s_law_digits [] [],
  dfK "_law_order" s_law_order [] [],
  dfK "_law_names" s_law_names [] [],
  dfK "_law_taking" s_law_taking [] [],
  dfK "_law_ties" s_law_ties [] [],
  dfK "_law_seen" s_law_seen [] [],
  dfK "_law_explains" s_law_explains [] [],
  dfK "_law_fits" s_law_fits [] [],
  dfK "_law_orders" s_law_orders [] [],
  dfK "_law_free" s_law_free [] [],
  dfK "_law_peeled" s_law_peeled [] [],
  dfK "_law_stuck" s_law_stuck [] [],
  dfK "_law_left" s_law_left [] [],
  dfK "_law_lots" s_law_lots [] [],
  dfM "Peel" "__init__" "Peel.__init__" s_Peel___init__ [] [],
  dfM "BadName" "__init__" "BadName.__init__" s_BadName___init__ [] [],
  dfM "TakenName" "__init__" "TakenName.__init__" s_TakenName___init__ [] [],
  dfM "BadDepth" "__init__" "BadDepth.__init__" s_BadDepth___init__ [] [],
  dfM "BadTaking" "__init__" "BadTaking.__init__" s_BadTaking___init__ [] [],
  dfM "BadTie" "__init__" "BadTie.__init__" s_BadTie___init__ [] [],
  dfM "Seen" "is_held" "Seen.is_held" s_Seen_is_held [] [],
  dfK "is_stuck" s_is_stuck [] [],
  dfK "_next_off" s_next_off [] [],
  dfK "is_name" s_is_name [] [],
  dfK "own_names" s_own_names [] [],
  dfK "_checked_depths" s_checked_depths [] [],
  dfK "_checked_takings" s_checked_takings [] [],
  dfK "_checked_ties" s_checked_ties [] [],
  dfK "_law_judged" s_law_judged [] [],
  dfK "_law_right" s_law_right [] [],
  dfM "Seen" "__init__" "Seen.__init__" s_Seen___init__ [.adr (He.dflAt ("Seen", some "__init__") 0)] [],
  dfM "Seen" "tied" "Seen.tied" s_Seen_tied [] [],
  dfK "peel" s_peel [] [],
  dfK "_law_made" s_law_made [] [],
  dfK "_law_asked" s_law_asked [] [],
  dfK "law" s_law [] []]
def fa : List He.Fa := [.cls "Peel", .noat "Peel" "order", .noat "Peel" "left", .noat "BadName" "name", .noat "TakenName" "name", .noat "BadDepth" "depth", .noat "BadTaking" "index", .noat "BadTie" "index", .cls "Seen", .noat "Seen" "_limits", .noat "Seen" "_worse", .meth "Seen" "is_held", .meth "BadName" "__init__", .glo "BadName", .meth "TakenName" "__init__", .glo "TakenName", .meth "BadDepth" "__init__", .glo "BadDepth", .meth "BadTaking" "__init__", .glo "BadTaking", .meth "BadTie" "__init__", .glo "BadTie", .noat "Seen" "guests", .noat "Seen" "depths", .noat "Seen" "takings", .noat "Seen" "ties", .mkr "Seen", .glo "Seen", .mkr "Peel", .glo "Peel", .meth "Seen" "tied", .glo "frozen", .glo "_is_letter", .glo "_limits", .glo "_law_whole", .glo "_law_same", .glo "_law_cell", .glo "_law_digits", .glo "_law_order", .glo "_law_names", .glo "_law_taking", .glo "_law_ties", .glo "_law_seen", .glo "_law_explains", .glo "_law_fits", .glo "_law_orders", .glo "_law_free", .glo "_law_peeled", .glo "_law_stuck", .glo "_law_left", .glo "_law_lots", .glo "is_stuck", .glo "_next_off", .glo "is_name", .glo "own_names", .glo "_checked_depths", .glo "_checked_takings", .glo "_checked_ties", .glo "_law_judged", .glo "_law_right", .glo "peel", .glo "_law_made", .glo "_law_asked", .glo "law", .free "isinstance", .free "list", .free "tuple", .free "zip", .free "int", .free "bool", .free "len", .free "range", .free "str", .free "min", .free "any", .free "all", .free "enumerate"]
def ts : List He.Tab := []
def ex : List (PySem.W.Frag → Bool) := [fun K => oexB K (He.ga K "BadName"), fun K => oexB K (He.ga K "TakenName"), fun K => oexB K (He.ga K "BadDepth"), fun K => oexB K (He.ga K "BadTaking"), fun K => oexB K (He.ga K "BadTie"), fun K => repB K (.tup []) (.ref (He.dflAt ("Seen", some "__init__") 0 K))]
abbrev Ctx (w : World) (K : PySem.W.Frag) (mg : Str → Option Value) : Prop := FactsY fa fn ts ex w K mg
section
variable {P : Program} {w : World} {K : PySem.W.Frag} {mg : Str → Option Value} {base : Heap}
theorem gl_frozen (c : Ctx w K mg) : mg "frozen" = some (.ref (He.ga K "frozen")) := c.gl 31 rfl
noncomputable def fd_frozen (c : Ctx w K mg) : FuncData := c.fd 0 (d := dfK "frozen" s_frozen [] []) rfl
theorem fn_frozen (c : Ctx w K mg) : FunD K "frozen" "frozen" (defArgs s_frozen) (defBody s_frozen) (defScope s_frozen) [] [] (He.ga K "frozen") (fd_frozen c) := c.fun 0 (d := dfK "frozen" s_frozen [] []) rfl
theorem kp_frozen (c : Ctx w K mg) : PySem.W.keepIn K (.ref (He.ga K "frozen")) = true := (fn_frozen c).kp
theorem bd_frozen (c : Ctx w K mg) : Binds K (fd_frozen c) ["value"] [] := (fn_frozen c).bindsN fun _ _ _ _ _ _ us hl => match us, hl with | [_], _ => rfl
theorem gl_is_letter (c : Ctx w K mg) : mg "_is_letter" = some (.ref (He.ga K "_is_letter")) := c.gl 32 rfl
noncomputable def fd_is_letter (c : Ctx w K mg) : FuncData := c.fd 1 (d := dfK "_is_letter" s_is_letter [] []) rfl
theorem fn_is_letter (c : Ctx w K mg) : FunD K "_is_letter" "_is_letter" (defArgs s_is_letter) (defBody s_is_letter) (defScope s_is_letter) [] [] (He.ga K "_is_letter") (fd_is_letter c) := c.fun 1 (d := dfK "_is_letter" s_is_letter [] []) rfl
theorem kp_is_letter (c : Ctx w K mg) : PySem.W.keepIn K (.ref (He.ga K "_is_letter")) = true := (fn_is_letter c).kp
theorem bd_is_letter (c : Ctx w K mg) : Binds K (fd_is_letter c) ["sign"] [] := (fn_is_letter c).bindsN fun _ _ _ _ _ _ us hl => match us, hl with | [_], _ => rfl
theorem gl_limits (c : Ctx w K mg) : mg "_limits" = some (.ref (He.ga K "_limits")) := c.gl 33 rfl
noncomputable def fd_limits (c : Ctx w K mg) : FuncData := c.fd 2 (d := dfK "_limits" s_limits [] []) rfl
theorem fn_limits (c : Ctx w K mg) : FunD K "_limits" "_limits" (defArgs s_limits) (defBody s_limits) (defScope s_limits) [] [] (He.ga K "_limits") (fd_limits c) := c.fun 2 (d := dfK "_limits" s_limits [] []) rfl
theorem kp_limits (c : Ctx w K mg) : PySem.W.keepIn K (.ref (He.ga K "_limits")) = true := (fn_limits c).kp
theorem bd_limits (c : Ctx w K mg) : Binds K (fd_limits c) ["guests", "takings", "depths"] [] := (fn_limits c).bindsN fun _ _ _ _ _ _ us hl => match us, hl with | [_, _, _], _ => rfl
theorem gl_law_whole (c : Ctx w K mg) : mg "_law_whole" = some (.ref (He.ga K "_law_whole")) := c.gl 34 rfl
noncomputable def fd_law_whole (c : Ctx w K mg) : FuncData := c.fd 3 (d := dfK "_law_whole" s_law_whole [] []) rfl
theorem fn_law_whole (c : Ctx w K mg) : FunD K "_law_whole" "_law_whole" (defArgs s_law_whole) (defBody s_law_whole) (defScope s_law_whole) [] [] (He.ga K "_law_whole") (fd_law_whole c) := c.fun 3 (d := dfK "_law_whole" s_law_whole [] []) rfl
theorem kp_law_whole (c : Ctx w K mg) : PySem.W.keepIn K (.ref (He.ga K "_law_whole")) = true := (fn_law_whole c).kp
theorem bd_law_whole (c : Ctx w K mg) : Binds K (fd_law_whole c) ["_law_value"] [] := (fn_law_whole c).bindsN fun _ _ _ _ _ _ us hl => match us, hl with | [_], _ => rfl
theorem gl_law_same (c : Ctx w K mg) : mg "_law_same" = some (.ref (He.ga K "_law_same")) := c.gl 35 rfl
noncomputable def fd_law_same (c : Ctx w K mg) : FuncData := c.fd 4 (d := dfK "_law_same" s_law_same [] []) rfl
theorem fn_law_same (c : Ctx w K mg) : FunD K "_law_same" "_law_same" (defArgs s_law_same) (defBody s_law_same) (defScope s_law_same) [] [] (He.ga K "_law_same") (fd_law_same c) := c.fun 4 (d := dfK "_law_same" s_law_same [] []) rfl
theorem kp_law_same (c : Ctx w K mg) : PySem.W.keepIn K (.ref (He.ga K "_law_same")) = true := (fn_law_same c).kp
theorem bd_law_same (c : Ctx w K mg) : Binds K (fd_law_same c) ["_law_value", "_law_due"] [] := (fn_law_same c).bindsN fun _ _ _ _ _ _ us hl => match us, hl with | [_, _], _ => rfl
theorem gl_law_cell (c : Ctx w K mg) : mg "_law_cell" = some (.ref (He.ga K "_law_cell")) := c.gl 36 rfl
noncomputable def fd_law_cell (c : Ctx w K mg) : FuncData := c.fd 5 (d := dfK "_law_cell" s_law_cell [] []) rfl
theorem fn_law_cell (c : Ctx w K mg) : FunD K "_law_cell" "_law_cell" (defArgs s_law_cell) (defBody s_law_cell) (defScope s_law_cell) [] [] (He.ga K "_law_cell") (fd_law_cell c) := c.fun 5 (d := dfK "_law_cell" s_law_cell [] []) rfl
theorem kp_law_cell (c : Ctx w K mg) : PySem.W.keepIn K (.ref (He.ga K "_law_cell")) = true := (fn_law_cell c).kp
theorem bd_law_cell (c : Ctx w K mg) : Binds K (fd_law_cell c) ["_law_script", "_law_k"] [] := (fn_law_cell c).bindsN fun _ _ _ _ _ _ us hl => match us, hl with | [_, _], _ => rfl
theorem gl_law_digits (c : Ctx w K mg) : mg "_law_digits" = some (.ref (He.ga K "_law_digits")) := c.gl 37 rfl
noncomputable def fd_law_digits (c : Ctx w K mg) : FuncData := c.fd 6 (d := dfK "_law_digits" s_law_digits [] []) rfl
theorem fn_law_digits (c : Ctx w K mg) : FunD K "_law_digits" "_law_digits" (defArgs s_law_digits) (defBody s_law_digits) (defScope s_law_digits) [] [] (He.ga K "_law_digits") (fd_law_digits c) := c.fun 6 (d := dfK "_law_digits" s_law_digits [] []) rfl
theorem kp_law_digits (c : Ctx w K mg) : PySem.W.keepIn K (.ref (He.ga K "_law_digits")) = true := (fn_law_digits c).kp
theorem bd_law_digits (c : Ctx w K mg) : Binds K (fd_law_digits c) ["_law_cell_here", "_law_sizes"] [] := (fn_law_digits c).bindsN fun _ _ _ _ _ _ us hl => match us, hl with | [_, _], _ => rfl
theorem gl_law_order (c : Ctx w K mg) : mg "_law_order" = some (.ref (He.ga K "_law_order")) := c.gl 38 rfl
noncomputable def fd_law_order (c : Ctx w K mg) : FuncData := c.fd 7 (d := dfK "_law_order" s_law_order [] []) rfl
theorem fn_law_order (c : Ctx w K mg) : FunD K "_law_order" "_law_order" (defArgs s_law_order) (defBody s_law_order) (defScope s_law_order) [] [] (He.ga K "_law_order") (fd_law_order c) := c.fun 7 (d := dfK "_law_order" s_law_order [] []) rfl
theorem kp_law_order (c : Ctx w K mg) : PySem.W.keepIn K (.ref (He.ga K "_law_order")) = true := (fn_law_order c).kp
theorem bd_law_order (c : Ctx w K mg) : Binds K (fd_law_order c) ["_law_row", "_law_many"] [] := (fn_law_order c).bindsN fun _ _ _ _ _ _ us hl => match us, hl with | [_, _], _ => rfl
theorem gl_law_names (c : Ctx w K mg) : mg "_law_names" = some (.ref (He.ga K "_law_names")) := c.gl 39 rfl
noncomputable def fd_law_names (c : Ctx w K mg) : FuncData := c.fd 8 (d := dfK "_law_names" s_law_names [] []) rfl
theorem fn_law_names (c : Ctx w K mg) : FunD K "_law_names" "_law_names" (defArgs s_law_names) (defBody s_law_names) (defScope s_law_names) [] [] (He.ga K "_law_names") (fd_law_names c) := c.fun 8 (d := dfK "_law_names" s_law_names [] []) rfl
theorem kp_law_names (c : Ctx w K mg) : PySem.W.keepIn K (.ref (He.ga K "_law_names")) = true := (fn_law_names c).kp
theorem bd_law_names (c : Ctx w K mg) : Binds K (fd_law_names c) ["_law_digit", "_law_many"] [] := (fn_law_names c).bindsN fun _ _ _ _ _ _ us hl => match us, hl with | [_, _], _ => rfl
theorem gl_law_taking (c : Ctx w K mg) : mg "_law_taking" = some (.ref (He.ga K "_law_taking")) := c.gl 40 rfl
noncomputable def fd_law_taking (c : Ctx w K mg) : FuncData := c.fd 9 (d := dfK "_law_taking" s_law_taking [] []) rfl
theorem fn_law_taking (c : Ctx w K mg) : FunD K "_law_taking" "_law_taking" (defArgs s_law_taking) (defBody s_law_taking) (defScope s_law_taking) [] [] (He.ga K "_law_taking") (fd_law_taking c) := c.fun 9 (d := dfK "_law_taking" s_law_taking [] []) rfl
theorem kp_law_taking (c : Ctx w K mg) : PySem.W.keepIn K (.ref (He.ga K "_law_taking")) = true := (fn_law_taking c).kp
theorem bd_law_taking (c : Ctx w K mg) : Binds K (fd_law_taking c) ["_law_names_here", "_law_depths", "_law_ranked", "_law_wild", "_law_row"] [] := (fn_law_taking c).bindsN fun _ _ _ _ _ _ us hl => match us, hl with | [_, _, _, _, _], _ => rfl
theorem gl_law_ties (c : Ctx w K mg) : mg "_law_ties" = some (.ref (He.ga K "_law_ties")) := c.gl 41 rfl
noncomputable def fd_law_ties (c : Ctx w K mg) : FuncData := c.fd 10 (d := dfK "_law_ties" s_law_ties [] []) rfl
theorem fn_law_ties (c : Ctx w K mg) : FunD K "_law_ties" "_law_ties" (defArgs s_law_ties) (defBody s_law_ties) (defScope s_law_ties) [] [] (He.ga K "_law_ties") (fd_law_ties c) := c.fun 10 (d := dfK "_law_ties" s_law_ties [] []) rfl
theorem kp_law_ties (c : Ctx w K mg) : PySem.W.keepIn K (.ref (He.ga K "_law_ties")) = true := (fn_law_ties c).kp
theorem bd_law_ties (c : Ctx w K mg) : Binds K (fd_law_ties c) ["_law_names_here", "_law_ranked", "_law_wild", "_law_row"] [] := (fn_law_ties c).bindsN fun _ _ _ _ _ _ us hl => match us, hl with | [_, _, _, _], _ => rfl
theorem gl_law_seen (c : Ctx w K mg) : mg "_law_seen" = some (.ref (He.ga K "_law_seen")) := c.gl 42 rfl
noncomputable def fd_law_seen (c : Ctx w K mg) : FuncData := c.fd 11 (d := dfK "_law_seen" s_law_seen [] []) rfl
theorem fn_law_seen (c : Ctx w K mg) : FunD K "_law_seen" "_law_seen" (defArgs s_law_seen) (defBody s_law_seen) (defScope s_law_seen) [] [] (He.ga K "_law_seen") (fd_law_seen c) := c.fun 11 (d := dfK "_law_seen" s_law_seen [] []) rfl
theorem kp_law_seen (c : Ctx w K mg) : PySem.W.keepIn K (.ref (He.ga K "_law_seen")) = true := (fn_law_seen c).kp
theorem bd_law_seen (c : Ctx w K mg) : Binds K (fd_law_seen c) ["_law_script", "_law_at", "_law_upto", "_law_room"] [] := (fn_law_seen c).bindsN fun _ _ _ _ _ _ us hl => match us, hl with | [_, _, _, _], _ => rfl
theorem gl_law_explains (c : Ctx w K mg) : mg "_law_explains" = some (.ref (He.ga K "_law_explains")) := c.gl 43 rfl
noncomputable def fd_law_explains (c : Ctx w K mg) : FuncData := c.fd 12 (d := dfK "_law_explains" s_law_explains [] []) rfl
theorem fn_law_explains (c : Ctx w K mg) : FunD K "_law_explains" "_law_explains" (defArgs s_law_explains) (defBody s_law_explains) (defScope s_law_explains) [] [] (He.ga K "_law_explains") (fd_law_explains c) := c.fun 12 (d := dfK "_law_explains" s_law_explains [] []) rfl
theorem kp_law_explains (c : Ctx w K mg) : PySem.W.keepIn K (.ref (He.ga K "_law_explains")) = true := (fn_law_explains c).kp
theorem bd_law_explains (c : Ctx w K mg) : Binds K (fd_law_explains c) ["_law_order_here", "_law_taking_here", "_law_depth"] [] := (fn_law_explains c).bindsN fun _ _ _ _ _ _ us hl => match us, hl with | [_, _, _], _ => rfl
theorem gl_law_fits (c : Ctx w K mg) : mg "_law_fits" = some (.ref (He.ga K "_law_fits")) := c.gl 44 rfl
noncomputable def fd_law_fits (c : Ctx w K mg) : FuncData := c.fd 13 (d := dfK "_law_fits" s_law_fits [] []) rfl
theorem fn_law_fits (c : Ctx w K mg) : FunD K "_law_fits" "_law_fits" (defArgs s_law_fits) (defBody s_law_fits) (defScope s_law_fits) [] [] (He.ga K "_law_fits") (fd_law_fits c) := c.fun 13 (d := dfK "_law_fits" s_law_fits [] []) rfl
theorem kp_law_fits (c : Ctx w K mg) : PySem.W.keepIn K (.ref (He.ga K "_law_fits")) = true := (fn_law_fits c).kp
theorem bd_law_fits (c : Ctx w K mg) : Binds K (fd_law_fits c) ["_law_seen_here", "_law_order_here"] [] := (fn_law_fits c).bindsN fun _ _ _ _ _ _ us hl => match us, hl with | [_, _], _ => rfl
theorem gl_law_orders (c : Ctx w K mg) : mg "_law_orders" = some (.ref (He.ga K "_law_orders")) := c.gl 45 rfl
noncomputable def fd_law_orders (c : Ctx w K mg) : FuncData := c.fd 14 (d := dfK "_law_orders" s_law_orders [] []) rfl
theorem fn_law_orders (c : Ctx w K mg) : FunD K "_law_orders" "_law_orders" (defArgs s_law_orders) (defBody s_law_orders) (defScope s_law_orders) [] [] (He.ga K "_law_orders") (fd_law_orders c) := c.fun 14 (d := dfK "_law_orders" s_law_orders [] []) rfl
theorem kp_law_orders (c : Ctx w K mg) : PySem.W.keepIn K (.ref (He.ga K "_law_orders")) = true := (fn_law_orders c).kp
theorem bd_law_orders (c : Ctx w K mg) : Binds K (fd_law_orders c) ["_law_names_here"] [] := (fn_law_orders c).bindsN fun _ _ _ _ _ _ us hl => match us, hl with | [_], _ => rfl
theorem gl_law_free (c : Ctx w K mg) : mg "_law_free" = some (.ref (He.ga K "_law_free")) := c.gl 46 rfl
noncomputable def fd_law_free (c : Ctx w K mg) : FuncData := c.fd 15 (d := dfK "_law_free" s_law_free [] []) rfl
theorem fn_law_free (c : Ctx w K mg) : FunD K "_law_free" "_law_free" (defArgs s_law_free) (defBody s_law_free) (defScope s_law_free) [] [] (He.ga K "_law_free") (fd_law_free c) := c.fun 15 (d := dfK "_law_free" s_law_free [] []) rfl
theorem kp_law_free (c : Ctx w K mg) : PySem.W.keepIn K (.ref (He.ga K "_law_free")) = true := (fn_law_free c).kp
theorem bd_law_free (c : Ctx w K mg) : Binds K (fd_law_free c) ["_law_seen_here", "_law_left_here", "_law_cloak"] [] := (fn_law_free c).bindsN fun _ _ _ _ _ _ us hl => match us, hl with | [_, _, _], _ => rfl
theorem gl_law_peeled (c : Ctx w K mg) : mg "_law_peeled" = some (.ref (He.ga K "_law_peeled")) := c.gl 47 rfl
noncomputable def fd_law_peeled (c : Ctx w K mg) : FuncData := c.fd 16 (d := dfK "_law_peeled" s_law_peeled [] []) rfl
theorem fn_law_peeled (c : Ctx w K mg) : FunD K "_law_peeled" "_law_peeled" (defArgs s_law_peeled) (defBody s_law_peeled) (defScope s_law_peeled) [] [] (He.ga K "_law_peeled") (fd_law_peeled c) := c.fun 16 (d := dfK "_law_peeled" s_law_peeled [] []) rfl
theorem kp_law_peeled (c : Ctx w K mg) : PySem.W.keepIn K (.ref (He.ga K "_law_peeled")) = true := (fn_law_peeled c).kp
theorem bd_law_peeled (c : Ctx w K mg) : Binds K (fd_law_peeled c) ["_law_seen_here"] [] := (fn_law_peeled c).bindsN fun _ _ _ _ _ _ us hl => match us, hl with | [_], _ => rfl
theorem gl_law_stuck (c : Ctx w K mg) : mg "_law_stuck" = some (.ref (He.ga K "_law_stuck")) := c.gl 48 rfl
noncomputable def fd_law_stuck (c : Ctx w K mg) : FuncData := c.fd 17 (d := dfK "_law_stuck" s_law_stuck [] []) rfl
theorem fn_law_stuck (c : Ctx w K mg) : FunD K "_law_stuck" "_law_stuck" (defArgs s_law_stuck) (defBody s_law_stuck) (defScope s_law_stuck) [] [] (He.ga K "_law_stuck") (fd_law_stuck c) := c.fun 17 (d := dfK "_law_stuck" s_law_stuck [] []) rfl
theorem kp_law_stuck (c : Ctx w K mg) : PySem.W.keepIn K (.ref (He.ga K "_law_stuck")) = true := (fn_law_stuck c).kp
theorem bd_law_stuck (c : Ctx w K mg) : Binds K (fd_law_stuck c) ["_law_seen_here", "_law_lot"] [] := (fn_law_stuck c).bindsN fun _ _ _ _ _ _ us hl => match us, hl with | [_, _], _ => rfl
theorem gl_law_left (c : Ctx w K mg) : mg "_law_left" = some (.ref (He.ga K "_law_left")) := c.gl 49 rfl
noncomputable def fd_law_left (c : Ctx w K mg) : FuncData := c.fd 18 (d := dfK "_law_left" s_law_left [] []) rfl
theorem fn_law_left (c : Ctx w K mg) : FunD K "_law_left" "_law_left" (defArgs s_law_left) (defBody s_law_left) (defScope s_law_left) [] [] (He.ga K "_law_left") (fd_law_left c) := c.fun 18 (d := dfK "_law_left" s_law_left [] []) rfl
theorem kp_law_left (c : Ctx w K mg) : PySem.W.keepIn K (.ref (He.ga K "_law_left")) = true := (fn_law_left c).kp
theorem bd_law_left (c : Ctx w K mg) : Binds K (fd_law_left c) ["_law_seen_here", "_law_row"] [] := (fn_law_left c).bindsN fun _ _ _ _ _ _ us hl => match us, hl with | [_, _], _ => rfl
theorem gl_law_lots (c : Ctx w K mg) : mg "_law_lots" = some (.ref (He.ga K "_law_lots")) := c.gl 50 rfl
noncomputable def fd_law_lots (c : Ctx w K mg) : FuncData := c.fd 19 (d := dfK "_law_lots" s_law_lots [] []) rfl
theorem fn_law_lots (c : Ctx w K mg) : FunD K "_law_lots" "_law_lots" (defArgs s_law_lots) (defBody s_law_lots) (defScope s_law_lots) [] [] (He.ga K "_law_lots") (fd_law_lots c) := c.fun 19 (d := dfK "_law_lots" s_law_lots [] []) rfl
theorem kp_law_lots (c : Ctx w K mg) : PySem.W.keepIn K (.ref (He.ga K "_law_lots")) = true := (fn_law_lots c).kp
theorem bd_law_lots (c : Ctx w K mg) : Binds K (fd_law_lots c) ["_law_seen_here", "_law_row"] [] := (fn_law_lots c).bindsN fun _ _ _ _ _ _ us hl => match us, hl with | [_, _], _ => rfl
noncomputable def fd_Peel___init__ (c : Ctx w K mg) : FuncData := c.fd 20 (d := dfM "Peel" "__init__" "Peel.__init__" s_Peel___init__ [] []) rfl
theorem fn_Peel___init__ (c : Ctx w K mg) : FunD K "__init__" "Peel.__init__" (defArgs s_Peel___init__) (defBody s_Peel___init__) (defScope s_Peel___init__) [] [] (He.fAd K ("Peel", some "__init__")) (fd_Peel___init__ c) := c.fun 20 (d := dfM "Peel" "__init__" "Peel.__init__" s_Peel___init__ [] []) rfl
theorem kp_Peel___init__ (c : Ctx w K mg) : PySem.W.keepIn K (.ref (He.fAd K ("Peel", some "__init__"))) = true := (fn_Peel___init__ c).kp
theorem bd_Peel___init__ (c : Ctx w K mg) : Binds K (fd_Peel___init__ c) ["self", "order", "left"] [] := (fn_Peel___init__ c).bindsN fun _ _ _ _ _ _ us hl => match us, hl with | [_, _, _], _ => rfl
noncomputable def fd_BadName___init__ (c : Ctx w K mg) : FuncData := c.fd 21 (d := dfM "BadName" "__init__" "BadName.__init__" s_BadName___init__ [] []) rfl
theorem fn_BadName___init__ (c : Ctx w K mg) : FunD K "__init__" "BadName.__init__" (defArgs s_BadName___init__) (defBody s_BadName___init__) (defScope s_BadName___init__) [] [] (He.fAd K ("BadName", some "__init__")) (fd_BadName___init__ c) := c.fun 21 (d := dfM "BadName" "__init__" "BadName.__init__" s_BadName___init__ [] []) rfl
theorem kp_BadName___init__ (c : Ctx w K mg) : PySem.W.keepIn K (.ref (He.fAd K ("BadName", some "__init__"))) = true := (fn_BadName___init__ c).kp
theorem bd_BadName___init__ (c : Ctx w K mg) : Binds K (fd_BadName___init__ c) ["self", "name"] [] := (fn_BadName___init__ c).bindsN fun _ _ _ _ _ _ us hl => match us, hl with | [_, _], _ => rfl
noncomputable def fd_TakenName___init__ (c : Ctx w K mg) : FuncData := c.fd 22 (d := dfM "TakenName" "__init__" "TakenName.__init__" s_TakenName___init__ [] []) rfl
theorem fn_TakenName___init__ (c : Ctx w K mg) : FunD K "__init__" "TakenName.__init__" (defArgs s_TakenName___init__) (defBody s_TakenName___init__) (defScope s_TakenName___init__) [] [] (He.fAd K ("TakenName", some "__init__")) (fd_TakenName___init__ c) := c.fun 22 (d := dfM "TakenName" "__init__" "TakenName.__init__" s_TakenName___init__ [] []) rfl
theorem kp_TakenName___init__ (c : Ctx w K mg) : PySem.W.keepIn K (.ref (He.fAd K ("TakenName", some "__init__"))) = true := (fn_TakenName___init__ c).kp
theorem bd_TakenName___init__ (c : Ctx w K mg) : Binds K (fd_TakenName___init__ c) ["self", "name"] [] := (fn_TakenName___init__ c).bindsN fun _ _ _ _ _ _ us hl => match us, hl with | [_, _], _ => rfl
noncomputable def fd_BadDepth___init__ (c : Ctx w K mg) : FuncData := c.fd 23 (d := dfM "BadDepth" "__init__" "BadDepth.__init__" s_BadDepth___init__ [] []) rfl
theorem fn_BadDepth___init__ (c : Ctx w K mg) : FunD K "__init__" "BadDepth.__init__" (defArgs s_BadDepth___init__) (defBody s_BadDepth___init__) (defScope s_BadDepth___init__) [] [] (He.fAd K ("BadDepth", some "__init__")) (fd_BadDepth___init__ c) := c.fun 23 (d := dfM "BadDepth" "__init__" "BadDepth.__init__" s_BadDepth___init__ [] []) rfl
theorem kp_BadDepth___init__ (c : Ctx w K mg) : PySem.W.keepIn K (.ref (He.fAd K ("BadDepth", some "__init__"))) = true := (fn_BadDepth___init__ c).kp
theorem bd_BadDepth___init__ (c : Ctx w K mg) : Binds K (fd_BadDepth___init__ c) ["self", "depth"] [] := (fn_BadDepth___init__ c).bindsN fun _ _ _ _ _ _ us hl => match us, hl with | [_, _], _ => rfl
noncomputable def fd_BadTaking___init__ (c : Ctx w K mg) : FuncData := c.fd 24 (d := dfM "BadTaking" "__init__" "BadTaking.__init__" s_BadTaking___init__ [] []) rfl
theorem fn_BadTaking___init__ (c : Ctx w K mg) : FunD K "__init__" "BadTaking.__init__" (defArgs s_BadTaking___init__) (defBody s_BadTaking___init__) (defScope s_BadTaking___init__) [] [] (He.fAd K ("BadTaking", some "__init__")) (fd_BadTaking___init__ c) := c.fun 24 (d := dfM "BadTaking" "__init__" "BadTaking.__init__" s_BadTaking___init__ [] []) rfl
theorem kp_BadTaking___init__ (c : Ctx w K mg) : PySem.W.keepIn K (.ref (He.fAd K ("BadTaking", some "__init__"))) = true := (fn_BadTaking___init__ c).kp
theorem bd_BadTaking___init__ (c : Ctx w K mg) : Binds K (fd_BadTaking___init__ c) ["self", "index"] [] := (fn_BadTaking___init__ c).bindsN fun _ _ _ _ _ _ us hl => match us, hl with | [_, _], _ => rfl
noncomputable def fd_BadTie___init__ (c : Ctx w K mg) : FuncData := c.fd 25 (d := dfM "BadTie" "__init__" "BadTie.__init__" s_BadTie___init__ [] []) rfl
theorem fn_BadTie___init__ (c : Ctx w K mg) : FunD K "__init__" "BadTie.__init__" (defArgs s_BadTie___init__) (defBody s_BadTie___init__) (defScope s_BadTie___init__) [] [] (He.fAd K ("BadTie", some "__init__")) (fd_BadTie___init__ c) := c.fun 25 (d := dfM "BadTie" "__init__" "BadTie.__init__" s_BadTie___init__ [] []) rfl
theorem kp_BadTie___init__ (c : Ctx w K mg) : PySem.W.keepIn K (.ref (He.fAd K ("BadTie", some "__init__"))) = true := (fn_BadTie___init__ c).kp
theorem bd_BadTie___init__ (c : Ctx w K mg) : Binds K (fd_BadTie___init__ c) ["self", "index"] [] := (fn_BadTie___init__ c).bindsN fun _ _ _ _ _ _ us hl => match us, hl with | [_, _], _ => rfl
noncomputable def fd_Seen_is_held (c : Ctx w K mg) : FuncData := c.fd 26 (d := dfM "Seen" "is_held" "Seen.is_held" s_Seen_is_held [] []) rfl
theorem fn_Seen_is_held (c : Ctx w K mg) : FunD K "is_held" "Seen.is_held" (defArgs s_Seen_is_held) (defBody s_Seen_is_held) (defScope s_Seen_is_held) [] [] (He.fAd K ("Seen", some "is_held")) (fd_Seen_is_held c) := c.fun 26 (d := dfM "Seen" "is_held" "Seen.is_held" s_Seen_is_held [] []) rfl
theorem kp_Seen_is_held (c : Ctx w K mg) : PySem.W.keepIn K (.ref (He.fAd K ("Seen", some "is_held"))) = true := (fn_Seen_is_held c).kp
theorem bd_Seen_is_held (c : Ctx w K mg) : Binds K (fd_Seen_is_held c) ["self", "cloak", "lot"] [] := (fn_Seen_is_held c).bindsN fun _ _ _ _ _ _ us hl => match us, hl with | [_, _, _], _ => rfl
theorem gl_is_stuck (c : Ctx w K mg) : mg "is_stuck" = some (.ref (He.ga K "is_stuck")) := c.gl 51 rfl
noncomputable def fd_is_stuck (c : Ctx w K mg) : FuncData := c.fd 27 (d := dfK "is_stuck" s_is_stuck [] []) rfl
theorem fn_is_stuck (c : Ctx w K mg) : FunD K "is_stuck" "is_stuck" (defArgs s_is_stuck) (defBody s_is_stuck) (defScope s_is_stuck) [] [] (He.ga K "is_stuck") (fd_is_stuck c) := c.fun 27 (d := dfK "is_stuck" s_is_stuck [] []) rfl
theorem kp_is_stuck (c : Ctx w K mg) : PySem.W.keepIn K (.ref (He.ga K "is_stuck")) = true := (fn_is_stuck c).kp
theorem bd_is_stuck (c : Ctx w K mg) : Binds K (fd_is_stuck c) ["seen", "lot"] [] := (fn_is_stuck c).bindsN fun _ _ _ _ _ _ us hl => match us, hl with | [_, _], _ => rfl
theorem gl_next_off (c : Ctx w K mg) : mg "_next_off" = some (.ref (He.ga K "_next_off")) := c.gl 52 rfl
noncomputable def fd_next_off (c : Ctx w K mg) : FuncData := c.fd 28 (d := dfK "_next_off" s_next_off [] []) rfl
theorem fn_next_off (c : Ctx w K mg) : FunD K "_next_off" "_next_off" (defArgs s_next_off) (defBody s_next_off) (defScope s_next_off) [] [] (He.ga K "_next_off") (fd_next_off c) := c.fun 28 (d := dfK "_next_off" s_next_off [] []) rfl
theorem kp_next_off (c : Ctx w K mg) : PySem.W.keepIn K (.ref (He.ga K "_next_off")) = true := (fn_next_off c).kp
theorem bd_next_off (c : Ctx w K mg) : Binds K (fd_next_off c) ["seen", "left"] [] := (fn_next_off c).bindsN fun _ _ _ _ _ _ us hl => match us, hl with | [_, _], _ => rfl
theorem gl_is_name (c : Ctx w K mg) : mg "is_name" = some (.ref (He.ga K "is_name")) := c.gl 53 rfl
noncomputable def fd_is_name (c : Ctx w K mg) : FuncData := c.fd 29 (d := dfK "is_name" s_is_name [] []) rfl
theorem fn_is_name (c : Ctx w K mg) : FunD K "is_name" "is_name" (defArgs s_is_name) (defBody s_is_name) (defScope s_is_name) [] [] (He.ga K "is_name") (fd_is_name c) := c.fun 29 (d := dfK "is_name" s_is_name [] []) rfl
theorem kp_is_name (c : Ctx w K mg) : PySem.W.keepIn K (.ref (He.ga K "is_name")) = true := (fn_is_name c).kp
theorem bd_is_name (c : Ctx w K mg) : Binds K (fd_is_name c) ["value"] [] := (fn_is_name c).bindsN fun _ _ _ _ _ _ us hl => match us, hl with | [_], _ => rfl
theorem gl_own_names (c : Ctx w K mg) : mg "own_names" = some (.ref (He.ga K "own_names")) := c.gl 54 rfl
noncomputable def fd_own_names (c : Ctx w K mg) : FuncData := c.fd 30 (d := dfK "own_names" s_own_names [] []) rfl
theorem fn_own_names (c : Ctx w K mg) : FunD K "own_names" "own_names" (defArgs s_own_names) (defBody s_own_names) (defScope s_own_names) [] [] (He.ga K "own_names") (fd_own_names c) := c.fun 30 (d := dfK "own_names" s_own_names [] []) rfl
theorem kp_own_names (c : Ctx w K mg) : PySem.W.keepIn K (.ref (He.ga K "own_names")) = true := (fn_own_names c).kp
theorem bd_own_names (c : Ctx w K mg) : Binds K (fd_own_names c) ["names"] [] := (fn_own_names c).bindsN fun _ _ _ _ _ _ us hl => match us, hl with | [_], _ => rfl
theorem gl_checked_depths (c : Ctx w K mg) : mg "_checked_depths" = some (.ref (He.ga K "_checked_depths")) := c.gl 55 rfl
noncomputable def fd_checked_depths (c : Ctx w K mg) : FuncData := c.fd 31 (d := dfK "_checked_depths" s_checked_depths [] []) rfl
theorem fn_checked_depths (c : Ctx w K mg) : FunD K "_checked_depths" "_checked_depths" (defArgs s_checked_depths) (defBody s_checked_depths) (defScope s_checked_depths) [] [] (He.ga K "_checked_depths") (fd_checked_depths c) := c.fun 31 (d := dfK "_checked_depths" s_checked_depths [] []) rfl
theorem kp_checked_depths (c : Ctx w K mg) : PySem.W.keepIn K (.ref (He.ga K "_checked_depths")) = true := (fn_checked_depths c).kp
theorem bd_checked_depths (c : Ctx w K mg) : Binds K (fd_checked_depths c) ["depths"] [] := (fn_checked_depths c).bindsN fun _ _ _ _ _ _ us hl => match us, hl with | [_], _ => rfl
theorem gl_checked_takings (c : Ctx w K mg) : mg "_checked_takings" = some (.ref (He.ga K "_checked_takings")) := c.gl 56 rfl
noncomputable def fd_checked_takings (c : Ctx w K mg) : FuncData := c.fd 32 (d := dfK "_checked_takings" s_checked_takings [] []) rfl
theorem fn_checked_takings (c : Ctx w K mg) : FunD K "_checked_takings" "_checked_takings" (defArgs s_checked_takings) (defBody s_checked_takings) (defScope s_checked_takings) [] [] (He.ga K "_checked_takings") (fd_checked_takings c) := c.fun 32 (d := dfK "_checked_takings" s_checked_takings [] []) rfl
theorem kp_checked_takings (c : Ctx w K mg) : PySem.W.keepIn K (.ref (He.ga K "_checked_takings")) = true := (fn_checked_takings c).kp
theorem bd_checked_takings (c : Ctx w K mg) : Binds K (fd_checked_takings c) ["guests", "takings"] [] := (fn_checked_takings c).bindsN fun _ _ _ _ _ _ us hl => match us, hl with | [_, _], _ => rfl
theorem gl_checked_ties (c : Ctx w K mg) : mg "_checked_ties" = some (.ref (He.ga K "_checked_ties")) := c.gl 57 rfl
noncomputable def fd_checked_ties (c : Ctx w K mg) : FuncData := c.fd 33 (d := dfK "_checked_ties" s_checked_ties [] []) rfl
theorem fn_checked_ties (c : Ctx w K mg) : FunD K "_checked_ties" "_checked_ties" (defArgs s_checked_ties) (defBody s_checked_ties) (defScope s_checked_ties) [] [] (He.ga K "_checked_ties") (fd_checked_ties c) := c.fun 33 (d := dfK "_checked_ties" s_checked_ties [] []) rfl
theorem kp_checked_ties (c : Ctx w K mg) : PySem.W.keepIn K (.ref (He.ga K "_checked_ties")) = true := (fn_checked_ties c).kp
theorem bd_checked_ties (c : Ctx w K mg) : Binds K (fd_checked_ties c) ["guests", "ties"] [] := (fn_checked_ties c).bindsN fun _ _ _ _ _ _ us hl => match us, hl with | [_, _], _ => rfl
theorem gl_law_judged (c : Ctx w K mg) : mg "_law_judged" = some (.ref (He.ga K "_law_judged")) := c.gl 58 rfl
noncomputable def fd_law_judged (c : Ctx w K mg) : FuncData := c.fd 34 (d := dfK "_law_judged" s_law_judged [] []) rfl
theorem fn_law_judged (c : Ctx w K mg) : FunD K "_law_judged" "_law_judged" (defArgs s_law_judged) (defBody s_law_judged) (defScope s_law_judged) [] [] (He.ga K "_law_judged") (fd_law_judged c) := c.fun 34 (d := dfK "_law_judged" s_law_judged [] []) rfl
theorem kp_law_judged (c : Ctx w K mg) : PySem.W.keepIn K (.ref (He.ga K "_law_judged")) = true := (fn_law_judged c).kp
theorem bd_law_judged (c : Ctx w K mg) : Binds K (fd_law_judged c) ["_law_made_here", "_law_seen_here", "_law_lots_here", "_law_left_here", "_law_listed"] [] := (fn_law_judged c).bindsN fun _ _ _ _ _ _ us hl => match us, hl with | [_, _, _, _, _], _ => rfl
theorem gl_law_right (c : Ctx w K mg) : mg "_law_right" = some (.ref (He.ga K "_law_right")) := c.gl 59 rfl
noncomputable def fd_law_right (c : Ctx w K mg) : FuncData := c.fd 35 (d := dfK "_law_right" s_law_right [] []) rfl
theorem fn_law_right (c : Ctx w K mg) : FunD K "_law_right" "_law_right" (defArgs s_law_right) (defBody s_law_right) (defScope s_law_right) [] [] (He.ga K "_law_right") (fd_law_right c) := c.fun 35 (d := dfK "_law_right" s_law_right [] []) rfl
theorem kp_law_right (c : Ctx w K mg) : PySem.W.keepIn K (.ref (He.ga K "_law_right")) = true := (fn_law_right c).kp
theorem bd_law_right (c : Ctx w K mg) : Binds K (fd_law_right c) ["_law_made_here", "_law_seen_here", "_law_result"] [] := (fn_law_right c).bindsN fun _ _ _ _ _ _ us hl => match us, hl with | [_, _, _], _ => rfl
noncomputable def fd_Seen___init__ (c : Ctx w K mg) : FuncData := c.fd 36 (d := dfM "Seen" "__init__" "Seen.__init__" s_Seen___init__ [.adr (He.dflAt ("Seen", some "__init__") 0)] []) rfl
theorem fn_Seen___init__ (c : Ctx w K mg) : FunD K "__init__" "Seen.__init__" (defArgs s_Seen___init__) (defBody s_Seen___init__) (defScope s_Seen___init__) [V.ref (He.dflAt ("Seen", some "__init__") 0 K)] [] (He.fAd K ("Seen", some "__init__")) (fd_Seen___init__ c) := c.fun 36 (d := dfM "Seen" "__init__" "Seen.__init__" s_Seen___init__ [.adr (He.dflAt ("Seen", some "__init__") 0)] []) rfl
theorem kp_Seen___init__ (c : Ctx w K mg) : PySem.W.keepIn K (.ref (He.fAd K ("Seen", some "__init__"))) = true := (fn_Seen___init__ c).kp
noncomputable def fd_Seen_tied (c : Ctx w K mg) : FuncData := c.fd 37 (d := dfM "Seen" "tied" "Seen.tied" s_Seen_tied [] []) rfl
theorem fn_Seen_tied (c : Ctx w K mg) : FunD K "tied" "Seen.tied" (defArgs s_Seen_tied) (defBody s_Seen_tied) (defScope s_Seen_tied) [] [] (He.fAd K ("Seen", some "tied")) (fd_Seen_tied c) := c.fun 37 (d := dfM "Seen" "tied" "Seen.tied" s_Seen_tied [] []) rfl
theorem kp_Seen_tied (c : Ctx w K mg) : PySem.W.keepIn K (.ref (He.fAd K ("Seen", some "tied"))) = true := (fn_Seen_tied c).kp
theorem bd_Seen_tied (c : Ctx w K mg) : Binds K (fd_Seen_tied c) ["self", "better", "worse"] [] := (fn_Seen_tied c).bindsN fun _ _ _ _ _ _ us hl => match us, hl with | [_, _, _], _ => rfl
theorem gl_peel (c : Ctx w K mg) : mg "peel" = some (.ref (He.ga K "peel")) := c.gl 60 rfl
noncomputable def fd_peel (c : Ctx w K mg) : FuncData := c.fd 38 (d := dfK "peel" s_peel [] []) rfl
theorem fn_peel (c : Ctx w K mg) : FunD K "peel" "peel" (defArgs s_peel) (defBody s_peel) (defScope s_peel) [] [] (He.ga K "peel") (fd_peel c) := c.fun 38 (d := dfK "peel" s_peel [] []) rfl
theorem kp_peel (c : Ctx w K mg) : PySem.W.keepIn K (.ref (He.ga K "peel")) = true := (fn_peel c).kp
theorem bd_peel (c : Ctx w K mg) : Binds K (fd_peel c) ["seen"] [] := (fn_peel c).bindsN fun _ _ _ _ _ _ us hl => match us, hl with | [_], _ => rfl
theorem gl_law_made (c : Ctx w K mg) : mg "_law_made" = some (.ref (He.ga K "_law_made")) := c.gl 61 rfl
noncomputable def fd_law_made (c : Ctx w K mg) : FuncData := c.fd 39 (d := dfK "_law_made" s_law_made [] []) rfl
theorem fn_law_made (c : Ctx w K mg) : FunD K "_law_made" "_law_made" (defArgs s_law_made) (defBody s_law_made) (defScope s_law_made) [] [] (He.ga K "_law_made") (fd_law_made c) := c.fun 39 (d := dfK "_law_made" s_law_made [] []) rfl
theorem kp_law_made (c : Ctx w K mg) : PySem.W.keepIn K (.ref (He.ga K "_law_made")) = true := (fn_law_made c).kp
theorem bd_law_made (c : Ctx w K mg) : Binds K (fd_law_made c) ["_law_seen_here", "_law_kind"] [] := (fn_law_made c).bindsN fun _ _ _ _ _ _ us hl => match us, hl with | [_, _], _ => rfl
theorem gl_law_asked (c : Ctx w K mg) : mg "_law_asked" = some (.ref (He.ga K "_law_asked")) := c.gl 62 rfl
noncomputable def fd_law_asked (c : Ctx w K mg) : FuncData := c.fd 40 (d := dfK "_law_asked" s_law_asked [] []) rfl
theorem fn_law_asked (c : Ctx w K mg) : FunD K "_law_asked" "_law_asked" (defArgs s_law_asked) (defBody s_law_asked) (defScope s_law_asked) [] [] (He.ga K "_law_asked") (fd_law_asked c) := c.fun 40 (d := dfK "_law_asked" s_law_asked [] []) rfl
theorem kp_law_asked (c : Ctx w K mg) : PySem.W.keepIn K (.ref (He.ga K "_law_asked")) = true := (fn_law_asked c).kp
theorem bd_law_asked (c : Ctx w K mg) : Binds K (fd_law_asked c) ["_law_made_here", "_law_seen_here", "_law_lots_here", "_law_listed"] [] := (fn_law_asked c).bindsN fun _ _ _ _ _ _ us hl => match us, hl with | [_, _, _, _], _ => rfl
theorem gl_law (c : Ctx w K mg) : mg "law" = some (.ref (He.ga K "law")) := c.gl 63 rfl
noncomputable def fd_law (c : Ctx w K mg) : FuncData := c.fd 41 (d := dfK "law" s_law [] []) rfl
theorem fn_law (c : Ctx w K mg) : FunD K "law" "law" (defArgs s_law) (defBody s_law) (defScope s_law) [] [] (He.ga K "law") (fd_law c) := c.fun 41 (d := dfK "law" s_law [] []) rfl
theorem kp_law (c : Ctx w K mg) : PySem.W.keepIn K (.ref (He.ga K "law")) = true := (fn_law c).kp
theorem bd_law (c : Ctx w K mg) : Binds K (fd_law c) ["_law_script"] [] := (fn_law c).bindsN fun _ _ _ _ _ _ us hl => match us, hl with | [_], _ => rfl
theorem fr_isinstance (c : Ctx w K mg) : mg "isinstance" = none := c.fr 64 rfl
theorem fr_list (c : Ctx w K mg) : mg "list" = none := c.fr 65 rfl
theorem fr_tuple (c : Ctx w K mg) : mg "tuple" = none := c.fr 66 rfl
theorem fr_zip (c : Ctx w K mg) : mg "zip" = none := c.fr 67 rfl
theorem fr_int (c : Ctx w K mg) : mg "int" = none := c.fr 68 rfl
theorem fr_bool (c : Ctx w K mg) : mg "bool" = none := c.fr 69 rfl
theorem fr_len (c : Ctx w K mg) : mg "len" = none := c.fr 70 rfl
theorem fr_range (c : Ctx w K mg) : mg "range" = none := c.fr 71 rfl
theorem fr_str (c : Ctx w K mg) : mg "str" = none := c.fr 72 rfl
theorem fr_min (c : Ctx w K mg) : mg "min" = none := c.fr 73 rfl
theorem fr_any (c : Ctx w K mg) : mg "any" = none := c.fr 74 rfl
theorem fr_all (c : Ctx w K mg) : mg "all" = none := c.fr 75 rfl
theorem fr_enumerate (c : Ctx w K mg) : mg "enumerate" = none := c.fr 76 rfl
theorem fo_order (c : Ctx w K mg) : FldOk K ["Peel"] "order" := .cons (c.says.fact 0 rfl) (c.says.fact 1 rfl) (.nil)
theorem fo_left (c : Ctx w K mg) : FldOk K ["Peel"] "left" := .cons (c.says.fact 0 rfl) (c.says.fact 2 rfl) (.nil)
theorem fo__limits (c : Ctx w K mg) : FldOk K ["Seen"] "_limits" := .cons (c.says.fact 8 rfl) (c.says.fact 9 rfl) (.nil)
theorem fo__worse (c : Ctx w K mg) : FldOk K ["Seen"] "_worse" := .cons (c.says.fact 8 rfl) (c.says.fact 10 rfl) (.nil)
theorem fo_guests (c : Ctx w K mg) : FldOk K ["Seen"] "guests" := .cons (c.says.fact 8 rfl) (c.says.fact 22 rfl) (.nil)
theorem fo_depths (c : Ctx w K mg) : FldOk K ["Seen"] "depths" := .cons (c.says.fact 8 rfl) (c.says.fact 23 rfl) (.nil)
theorem fo_takings (c : Ctx w K mg) : FldOk K ["Seen"] "takings" := .cons (c.says.fact 8 rfl) (c.says.fact 24 rfl) (.nil)
theorem fo_ties (c : Ctx w K mg) : FldOk K ["Seen"] "ties" := .cons (c.says.fact 8 rfl) (c.says.fact 25 rfl) (.nil)
theorem kb_Seen_is_held_3 (c : Ctx w K mg) : KB K (fd_Seen_is_held c) ["self", "cloak", "lot"] 3 [] [.p 0, .p 1, .p 2] [] [] := .ofN (fn_Seen_is_held c) 3 [] _ fun _ _ _ _ _ _ us ws h1 h2 => match us, ws, h1, h2 with | [_, _, _], [], _, _ => rfl
theorem kb_Seen___init___5 (c : Ctx w K mg) : KB K (fd_Seen___init__ c) ["self", "guests", "takings", "depths", "ties"] 5 [] (.p 0 :: List.map Sl.up [.p 0, .p 1, .p 2, .p 3]) [.tup []] [] := .of1 (fn_Seen___init__ c) 5 [] _ _ (by intro h; cases h) (fun H => repsC (rep_ref (d := .tup []) (c.toFactsZ.tst 5 rfl) H) (repsNil)) fun T _ _ _ _ _ _ us its ws h1 h2 h3 => match us, its, ws, h1, h2, h3 with | [_, _, _, _, _], [_], [], _, _, _ => ⟨_, rfl, rfl⟩
theorem kb_Peel___init___3 (c : Ctx w K mg) : KB K (fd_Peel___init__ c) ["self", "order", "left"] 3 [] (.p 0 :: List.map Sl.up [.p 0, .p 1]) [] [] := .ofN (fn_Peel___init__ c) 3 [] _ fun _ _ _ _ _ _ us ws h1 h2 => match us, ws, h1, h2 with | [_, _, _], [], _, _ => rfl
theorem kb_Seen_tied_3 (c : Ctx w K mg) : KB K (fd_Seen_tied c) ["self", "better", "worse"] 3 [] [.p 0, .p 1, .p 2] [] [] := .ofN (fn_Seen_tied c) 3 [] _ fun _ _ _ _ _ _ us ws h1 h2 => match us, ws, h1, h2 with | [_, _, _], [], _, _ => rfl
/-! ### frozen -/
theorem sc_frozen : FnScope ["value", "item"] ["value"] (defScope s_frozen) := ⟨rfl, rfl, rfl, by decide +kernel, rfl, by decide +kernel, by decide +kernel⟩
def m_frozen (F : List D → Res D) : En → SR :=
  (mSeq (mIfS (mTest (mUn (isiD ["list", "tuple"]) (mVar 0))) (mRet (mCB (f1 tupleD) (mCons (mFz (mComp (mSeqI (mVar 0) (tgName 1)) [1] (fun _ => .ok true) (mCall F [] (mCons (mVar 1) mNil)))) mNil))) mNx)
  (mRet (mVar 0)))
def M_frozen : Nat → List D → Res D
  | 0 => fun _ => .stuck
  | n + 1 => runD 2 1 (m_frozen (M_frozen n))
theorem ok_frozen (c : Ctx w K mg) : ∀ n : Nat, FnOk P w K mg base (L2.CX P w) (n + 1) (He.ga K "frozen") (fd_frozen c) ["value"] (spD K (M_frozen n))
  | 0 => fn_0 (fn_frozen c) sc_frozen
  | n + 1 => by
    have ih := ok_frozen c n
    have sc := sc_frozen
    have e : n + 1 + 1 = (n + 1) + 1 := by omega
    rw [e]
    refine fn_D (fn_frozen c) sc fun cdv A outer s H E hr => ?_
    have hr0 := hr
    have tk : Takes (cxOf (L2.CX P w) P w K mg base ["value", "item"] "frozen" (defScope s_frozen) (He.ga K "frozen") cdv A outer s H E) (fun cls d _ H => E cls d H) := takes_of rfl rfl rfl rfl
    have po : PassesOwn (model P w) (A.deeper (envOfC "frozen" (defScope s_frozen) s.heap.objs.size (He.ga K "frozen") cdv)) (envOfC "frozen" (defScope s_frozen) s.heap.objs.size (He.ga K "frozen") cdv) (cxOf (L2.CX P w) P w K mg base ["value", "item"] "frozen" (defScope s_frozen) (He.ga K "frozen") cdv A outer s H E).xe := passes_of rfl
    exact (sb_cons (ss_if (st_val (SE.pt (se_isiT "list" "tuple" (fr_isinstance c) (fr_list c) (fr_tuple c) (SE.pt (se_var 0))))) (sb_one (ss_ret (se_cty late_P call_tupleZ src_tuple (fr_tuple c) (by decide +kernel) (sa_cons (SE.ft (se_lc (slc (own := [("item", 1)]) (SIc.t (ic_seq (se_var 0))) (fun _ _ _ _ _ => by exact (tg_name 1 sc.nd)) (fun _ _ _ _ _ => by exact (se_call ih hr0 takes0 (gl_frozen c) (kp_frozen c) (bd_frozen c) .nil (fun _ => repsNil) (sp_cons (se_var 1) sp_nil)))) rfl sc.nd (blkOk_by (show blkC ["value", "item"] (defScope s_frozen) _ _ = true by decide +kernel)))) sa_nil)))) sb_nil)
    (sb_one (ss_ret (se_var 0))))
/-! ### _is_letter -/
theorem sc_is_letter : FnScope ["sign"] ["sign"] (defScope s_is_letter) := ⟨rfl, rfl, rfl, by decide +kernel, rfl, by decide +kernel, by decide +kernel⟩
def m_is_letter : En → SR :=
  (mRet (mChain leX leX (mC (.str "a")) (mVar 0) (mC (.str "z"))))
def M_is_letter : List D → Res D := runD 1 1 m_is_letter
theorem ok_is_letter (c : Ctx w K mg) : FnOk P w K mg base (L2.CX P w) 1 (He.ga K "_is_letter") (fd_is_letter c) ["sign"] (spD K M_is_letter) := by
  have sc := sc_is_letter
  refine fn_D (fn_is_letter c) sc fun cdv A outer s H E hr => ?_
  have hr0 := hr
  have tk : Takes (cxOf (L2.CX P w) P w K mg base ["sign"] "_is_letter" (defScope s_is_letter) (He.ga K "_is_letter") cdv A outer s H E) (fun cls d _ H => E cls d H) := takes_of rfl rfl rfl rfl
  have po : PassesOwn (model P w) (A.deeper (envOfC "_is_letter" (defScope s_is_letter) s.heap.objs.size (He.ga K "_is_letter") cdv)) (envOfC "_is_letter" (defScope s_is_letter) s.heap.objs.size (He.ga K "_is_letter") cdv) (cxOf (L2.CX P w) P w K mg base ["sign"] "_is_letter" (defScope s_is_letter) (He.ga K "_is_letter") cdv A outer s H E).xe := passes_of rfl
  exact (sb_one (ss_ret (se_chain op_leX op_leX sr_leX sr_leX (SE.pt se_str) (SE.pt (se_var 0)) (SE.pt se_str))))
/-! ### _limits -/
theorem sc_limits : FnScope ["guests", "takings", "depths", "depth_of", "cloak", "guest", "depth", "taken", "hanging"] ["guests", "takings", "depths"] (defScope s_limits) := ⟨rfl, rfl, rfl, by decide +kernel, rfl, by decide +kernel, by decide +kernel⟩
def m_limits : En → SR :=
  (mSeq (mSet 3 (mFzO (mDComp (mZipI (mVar 0) (mVar 2) (tgTup [(tgName 5), (tgName 6)])) [5, 6] (fun _ => .ok true) (mVar 5) (mVar 6))))
  (mRet (mFzO (mDComp (mSeqI (mVar 0) (tgName 4)) [4] (fun _ => .ok true) (mVar 4) (mFz (mComp (mSeqI (mVar 1) (tgTup [(tgName 5), (tgName 7), (tgName 8)])) [5, 7, 8] (mTest (mOp eqD (mVar 7) (mVar 4))) (mTupL (mCons (mVar 8) (mCons (mOp dgetD (mVar 3) (mVar 5)) mNil)))))))))
def M_limits : List D → Res D := runD 9 3 m_limits
theorem ok_limits (c : Ctx w K mg) : FnOk P w K mg base (L2.CX P w) 1 (He.ga K "_limits") (fd_limits c) ["guests", "takings", "depths"] (spD K M_limits) := by
  have sc := sc_limits
  refine fn_D (fn_limits c) sc fun cdv A outer s H E hr => ?_
  have hr0 := hr
  have tk : Takes (cxOf (L2.CX P w) P w K mg base ["guests", "takings", "depths", "depth_of", "cloak", "guest", "depth", "taken", "hanging"] "_limits" (defScope s_limits) (He.ga K "_limits") cdv A outer s H E) (fun cls d _ H => E cls d H) := takes_of rfl rfl rfl rfl
  have po : PassesOwn (model P w) (A.deeper (envOfC "_limits" (defScope s_limits) s.heap.objs.size (He.ga K "_limits") cdv)) (envOfC "_limits" (defScope s_limits) s.heap.objs.size (He.ga K "_limits") cdv) (cxOf (L2.CX P w) P w K mg base ["guests", "takings", "depths", "depth_of", "cloak", "guest", "depth", "taken", "hanging"] "_limits" (defScope s_limits) (He.ga K "_limits") cdv A outer s H E).xe := passes_of rfl
  exact (sb_cons (ss_set 3 sc.nd (SE.fzO (se_dc (sdc (own := [("guest", 5), ("depth", 6)]) (SIc.t (ic_zip (fr_zip c) (se_var 0) (se_var 2))) (fun _ _ _ _ _ => by exact (tg_tup rfl (tgs_cons (tg_name 5 sc.nd) (tgs_cons (tg_name 6 sc.nd) tgs_nil)))) (fun _ _ _ _ _ => by exact (se_var 5)) (fun _ _ _ _ _ => by exact (se_var 6))) rfl sc.nd (blkOk_by (show blkC ["guests", "takings", "depths", "depth_of", "cloak", "guest", "depth", "taken", "hanging"] (defScope s_limits) _ _ = true by decide +kernel)))))
    (sb_one (ss_ret (SE.fzO (se_dc (sdc (own := [("cloak", 4)]) (SIc.t (ic_seq (se_var 0))) (fun _ _ _ _ _ => by exact (tg_name 4 sc.nd)) (fun _ _ _ _ _ => by exact (se_var 4)) (fun _ _ _ _ _ => by exact (SE.fz (se_lc (slc_if (own := [("guest", 5), ("taken", 7), ("hanging", 8)]) (SIc.t (ic_seq (se_var 1))) (fun _ _ _ _ _ => by exact (tg_tup rfl (tgs_cons (tg_name 5 sc.nd) (tgs_cons (tg_name 7 sc.nd) (tgs_cons (tg_name 8 sc.nd) tgs_nil))))) (fun _ _ _ _ _ => by exact (st_cmp (op_eqD (units64 hr0)) sr_eqD (SE.pt (se_var 7)) (SE.pt (se_var 4)) (nomark _))) (fun _ _ _ _ _ => by exact (se_tup (sp_cons (se_var 8) (sp_cons (se_dget (units1 hr0) (se_var 3) (se_var 5)) sp_nil))))) rfl sc.nd (blkOk_by (by rfl)))))) rfl sc.nd (blkOk_by (show blkC ["guests", "takings", "depths", "depth_of", "cloak", "guest", "depth", "taken", "hanging"] (defScope s_limits) _ _ = true by decide +kernel)))))))
/-! ### _law_whole -/
theorem sc_law_whole : FnScope ["_law_value"] ["_law_value"] (defScope s_law_whole) := ⟨rfl, rfl, rfl, by decide +kernel, rfl, by decide +kernel, by decide +kernel⟩
def m_law_whole : En → SR :=
  (mRet (mAndV (mUn (isiD ["int"]) (mVar 0)) (mNotV (mUn (isiD ["bool"]) (mVar 0)))))
def M_law_whole : List D → Res D := runD 1 1 m_law_whole
theorem ok_law_whole (c : Ctx w K mg) : FnOk P w K mg base (L2.CX P w) 1 (He.ga K "_law_whole") (fd_law_whole c) ["_law_value"] (spD K M_law_whole) := by
  have sc := sc_law_whole
  refine fn_D (fn_law_whole c) sc fun cdv A outer s H E hr => ?_
  have hr0 := hr
  have tk : Takes (cxOf (L2.CX P w) P w K mg base ["_law_value"] "_law_whole" (defScope s_law_whole) (He.ga K "_law_whole") cdv A outer s H E) (fun cls d _ H => E cls d H) := takes_of rfl rfl rfl rfl
  have po : PassesOwn (model P w) (A.deeper (envOfC "_law_whole" (defScope s_law_whole) s.heap.objs.size (He.ga K "_law_whole") cdv)) (envOfC "_law_whole" (defScope s_law_whole) s.heap.objs.size (He.ga K "_law_whole") cdv) (cxOf (L2.CX P w) P w K mg base ["_law_value"] "_law_whole" (defScope s_law_whole) (He.ga K "_law_whole") cdv A outer s H E).xe := passes_of rfl
  exact (sb_one (ss_ret (se_and (SE.pt (se_isi "int" (fr_isinstance c) (fr_int c) (SE.pt (se_var 0)))) (se_one (se_not (SE.pt (se_isi "bool" (fr_isinstance c) (fr_bool c) (SE.pt (se_var 0)))))))))
/-! ### _law_same -/
theorem sc_law_same : FnScope ["_law_value", "_law_due", "_law_k"] ["_law_value", "_law_due"] (defScope s_law_same) := ⟨rfl, rfl, rfl, by decide +kernel, rfl, by decide +kernel, by decide +kernel⟩
def m_law_same (F : List D → Res D) : En → SR :=
  (mSeq (mIfS (mTest (mUn (isiD ["tuple"]) (mVar 1))) (mSeq (mIfS (mOr (mNot (mTest (mUn (isiD ["tuple"]) (mVar 0)))) (mTest (mOp neD (mCB (f1 lenD) (mCons (mVar 0) mNil)) (mCB (f1 lenD) (mCons (mVar 1) mNil))))) (mRet (mC (.bl false))) mNx)
  (mSeq (mFor (mRng1 (mCB (f1 lenD) (mCons (mVar 1) mNil)) (tgName 2)) (mIfS (mNot (mTest (mCall F [] (mCons (mOp ixD (mVar 0) (mVar 2)) (mCons (mOp ixD (mVar 1) (mVar 2)) mNil))))) (mRet (mC (.bl false))) mNx))
  (mRet (mC (.bl true))))) mNx)
  (mSeq (mIfS (mTest (mOp isN (mVar 1) (mC .non))) (mRet (mOp isN (mVar 0) (mC .non))) mNx)
  (mSeq (mIfS (mTest (mUn (isiD ["str"]) (mVar 1))) (mRet (mAndV (mUn (isiD ["str"]) (mVar 0)) (mOp eqD (mVar 0) (mVar 1)))) mNx)
  (mRet (mAndV (mCall M_law_whole [] (mCons (mVar 0) mNil)) (mOp eqD (mVar 0) (mVar 1)))))))
def M_law_same : Nat → List D → Res D
  | 0 => fun _ => .stuck
  | n + 1 => runD 3 2 (m_law_same (M_law_same n))
theorem ok_law_same (c : Ctx w K mg) : ∀ n : Nat, FnOk P w K mg base (L2.CX P w) (n + 2) (He.ga K "_law_same") (fd_law_same c) ["_law_value", "_law_due"] (spD K (M_law_same n))
  | 0 => fn_0 (fn_law_same c) sc_law_same
  | n + 1 => by
    have ih := ok_law_same c n
    have sc := sc_law_same
    have e : n + 1 + 2 = (n + 2) + 1 := by omega
    rw [e]
    refine fn_D (fn_law_same c) sc fun cdv A outer s H E hr => ?_
    have hr0 := hr
    have tk : Takes (cxOf (L2.CX P w) P w K mg base ["_law_value", "_law_due", "_law_k"] "_law_same" (defScope s_law_same) (He.ga K "_law_same") cdv A outer s H E) (fun cls d _ H => E cls d H) := takes_of rfl rfl rfl rfl
    have po : PassesOwn (model P w) (A.deeper (envOfC "_law_same" (defScope s_law_same) s.heap.objs.size (He.ga K "_law_same") cdv)) (envOfC "_law_same" (defScope s_law_same) s.heap.objs.size (He.ga K "_law_same") cdv) (cxOf (L2.CX P w) P w K mg base ["_law_value", "_law_due", "_law_k"] "_law_same" (defScope s_law_same) (He.ga K "_law_same") cdv A outer s H E).xe := passes_of rfl
    exact (sb_cons (ss_if (st_val (SE.pt (se_isi "tuple" (fr_isinstance c) (fr_tuple c) (SE.pt (se_var 1))))) (sb_cons (ss_if (SW.st (sw_or (st_not (st_val (SE.pt (se_isi "tuple" (fr_isinstance c) (fr_tuple c) (SE.pt (se_var 0)))))) (sw_or1 (st_cmp (op_neD (units64 hr0)) sr_neD (SE.pt (se_cb late_P call_len2 src_len (fr_len c) (by decide +kernel) (sa_cons (SE.pt (se_var 0)) sa_nil))) (SE.pt (se_cb late_P call_len2 src_len (fr_len c) (by decide +kernel) (sa_cons (SE.pt (se_var 1)) sa_nil))) (nomark _))))) (sb_one (ss_ret se_bl)) sb_nil)
    (sb_cons (ss_for po rfl (si_rng1 (fr_range c) (SE.pt (se_cb late_P call_len2 src_len (fr_len c) (by decide +kernel) (sa_cons (SE.pt (se_var 1)) sa_nil))) (tg_name 2 sc.nd)) (sb_one (ss_if (st_not (st_val (SE.pt (se_call ih hr0 tk (gl_law_same c) (kp_law_same c) (bd_law_same c) .nil (fun _ => repsNil) (sp_cons (se_ix (SE.pt (se_var 0)) (SE.pt (se_var 2))) (sp_cons (se_ix (SE.pt (se_var 1)) (SE.pt (se_var 2))) sp_nil)))))) (sb_one (ss_ret se_bl)) sb_nil)))
    (sb_one (ss_ret se_bl)))) sb_nil)
    (sb_cons (ss_if (st_cmp op_isN sr_isN (SE.pt (se_var 1)) (SE.pt se_non) (nomark _)) (sb_one (ss_ret (se_cmp late_P op_isN sr_isN (SE.pt (se_var 0)) (SE.pt se_non) (nomark _)))) sb_nil)
    (sb_cons (ss_if (st_val (SE.pt (se_isi "str" (fr_isinstance c) (fr_str c) (SE.pt (se_var 1))))) (sb_one (ss_ret (se_and (SE.pt (se_isi "str" (fr_isinstance c) (fr_str c) (SE.pt (se_var 0)))) (se_one (se_cmp late_P (op_eqD (units64 hr0)) sr_eqD (SE.pt (se_var 0)) (SE.pt (se_var 1)) (nomark _)))))) sb_nil)
    (sb_one (ss_ret (se_and (SE.pt (se_call (ok_law_whole c) (hr0.mono (by omega)) tk (gl_law_whole c) (kp_law_whole c) (bd_law_whole c) .nil (fun _ => repsNil) (sp_cons (se_var 0) sp_nil))) (se_one (se_cmp late_P (op_eqD (units64 hr0)) sr_eqD (SE.pt (se_var 0)) (SE.pt (se_var 1)) (nomark _)))))))))
/-! ### _law_cell -/
theorem sc_law_cell : FnScope ["_law_script", "_law_k", "_law_seed", "_law_cell_here"] ["_law_script", "_law_k"] (defScope s_law_cell) := ⟨rfl, rfl, rfl, by decide +kernel, rfl, by decide +kernel, by decide +kernel⟩
def m_law_cell : En → SR :=
  (mSeq (mIfS (mTest (mOp ltX (mVar 1) (mCB (f1 lenD) (mCons (mVar 0) mNil)))) (mRet (mOp ixD (mVar 0) (mVar 1))) mNx)
  (mSeq (mSet 2 (mC (.int 17)))
  (mSeq (mFor (mSeqI (mVar 0) (tgName 3)) (mSet 2 (mOp modD (mCB (f1 intD) (mCons (mOp addD (mOp mulD (mVar 2) (mC (.int 31))) (mOp modD (mCB (f1 intD) (mCons (mVar 3) mNil)) (mC (.int 1000003)))) mNil)) (mC (.int 1000003)))))
  (mRet (mOp modD (mCB (f1 intD) (mCons (mOp mulD (mOp mulD (mOp addD (mVar 2) (mC (.int 7))) (mOp addD (mVar 1) (mC (.int 3)))) (mC (.int 69621))) mNil)) (mC (.int 2147483647)))))))
def M_law_cell : List D → Res D := runD 4 2 m_law_cell
theorem ok_law_cell (c : Ctx w K mg) : FnOk P w K mg base (L2.CX P w) 1 (He.ga K "_law_cell") (fd_law_cell c) ["_law_script", "_law_k"] (spD K M_law_cell) := by
  have sc := sc_law_cell
  refine fn_D (fn_law_cell c) sc fun cdv A outer s H E hr => ?_
  have hr0 := hr
  have tk : Takes (cxOf (L2.CX P w) P w K mg base ["_law_script", "_law_k", "_law_seed", "_law_cell_here"] "_law_cell" (defScope s_law_cell) (He.ga K "_law_cell") cdv A outer s H E) (fun cls d _ H => E cls d H) := takes_of rfl rfl rfl rfl
  have po : PassesOwn (model P w) (A.deeper (envOfC "_law_cell" (defScope s_law_cell) s.heap.objs.size (He.ga K "_law_cell") cdv)) (envOfC "_law_cell" (defScope s_law_cell) s.heap.objs.size (He.ga K "_law_cell") cdv) (cxOf (L2.CX P w) P w K mg base ["_law_script", "_law_k", "_law_seed", "_law_cell_here"] "_law_cell" (defScope s_law_cell) (He.ga K "_law_cell") cdv A outer s H E).xe := passes_of rfl
  exact (sb_cons (ss_if (st_cmp op_ltX sr_ltX (SE.pt (se_var 1)) (SE.pt (se_cb late_P call_len2 src_len (fr_len c) (by decide +kernel) (sa_cons (SE.pt (se_var 0)) sa_nil))) (nomark _)) (sb_one (ss_ret (se_ix (SE.pt (se_var 0)) (SE.pt (se_var 1))))) sb_nil)
    (sb_cons (ss_set 2 sc.nd se_int)
    (sb_cons (ss_for po rfl (si_seq (se_var 0) (tg_name 3 sc.nd)) (sb_one (ss_set 2 sc.nd (se_mod (SE.pt (se_cty late_P call_int1 src_int (fr_int c) (by decide +kernel) (sa_cons (SE.pt (se_add (SE.pt (se_mul (SE.pt (se_var 2)) (SE.pt se_int))) (SE.pt (se_mod (SE.pt (se_cty late_P call_int1 src_int (fr_int c) (by decide +kernel) (sa_cons (SE.pt (se_var 3)) sa_nil))) (SE.pt se_int))))) sa_nil))) (SE.pt se_int)))))
    (sb_one (ss_ret (se_mod (SE.pt (se_cty late_P call_int1 src_int (fr_int c) (by decide +kernel) (sa_cons (SE.pt (se_mul (SE.pt (se_mul (SE.pt (se_add (SE.pt (se_var 2)) (SE.pt se_int))) (SE.pt (se_add (SE.pt (se_var 1)) (SE.pt se_int))))) (SE.pt se_int))) sa_nil))) (SE.pt se_int)))))))
/-! ### _law_digits -/
theorem sc_law_digits : FnScope ["_law_cell_here", "_law_sizes", "_law_row", "_law_rest", "_law_seed", "_law_k", "_law_size", "_law_twice"] ["_law_cell_here", "_law_sizes"] (defScope s_law_digits) := ⟨rfl, rfl, rfl, by decide +kernel, rfl, by decide +kernel, by decide +kernel⟩
def m_law_digits : En → SR :=
  (mSeq (mSetF 2 (mLstL mNil))
  (mSeq (mSet 3 (mCB (f1 intD) (mCons (mVar 0) mNil)))
  (mSeq (mIfS (mTest (mOp geX (mVar 3) (mOp powD (mC (.int 10)) (mC (.int 18))))) (mSeq (mSet 3 (mOp subD (mVar 3) (mOp powD (mC (.int 10)) (mC (.int 18)))))
  (mSeq (mFor (mSeqI (mVar 1) (tgName 6)) (mSeq (mMut 2 (mCons (mOp modD (mCB (f1 intD) (mCons (mVar 3) mNil)) (mVar 6)) mNil) appG)
  (mSet 3 (mOp fdivD (mCB (f1 intD) (mCons (mVar 3) mNil)) (mVar 6)))))
  (mRetOw 2))) mNx)
  (mSeq (mSet 4 (mOp modD (mCB (f1 intD) (mCons (mVar 3) mNil)) (mC (.int 2147483629))))
  (mSeq (mFor (mRng1 (mCB (f1 lenD) (mCons (mVar 1) mNil)) (tgName 5)) (mSeq (mSet 4 (mOp modD (mCB (f1 intD) (mCons (mOp addD (mOp addD (mOp mulD (mVar 4) (mC (.int 48271))) (mOp mulD (mC (.int 974711)) (mVar 5))) (mC (.int 12345))) mNil)) (mC (.int 2147483647))))
  (mSeq (mSet 7 (mOp modD (mCB (f1 intD) (mCons (mOp mulD (mVar 4) (mOp addD (mOp fdivD (mVar 4) (mC (.int 65537))) (mC (.int 3)))) mNil)) (mC (.int 2147483629))))
  (mMut 2 (mCons (mOp modD (mOp fdivD (mVar 7) (mC (.int 19))) (mOp ixD (mVar 1) (mVar 5))) mNil) appG))))
  (mRetOw 2))))))
def M_law_digits : List D → Res Ob := runF 8 2 m_law_digits
theorem ok_law_digits (c : Ctx w K mg) : FnOk P w K mg base (L2.CX P w) 1 (He.ga K "_law_digits") (fd_law_digits c) ["_law_cell_here", "_law_sizes"] (spF K M_law_digits) := by
  have sc := sc_law_digits
  refine fn_F (fn_law_digits c) sc fun cdv A outer s H E hr => ?_
  have hr0 := hr
  have tk : Takes (cxOf (L2.CX P w) P w K mg base ["_law_cell_here", "_law_sizes", "_law_row", "_law_rest", "_law_seed", "_law_k", "_law_size", "_law_twice"] "_law_digits" (defScope s_law_digits) (He.ga K "_law_digits") cdv A outer s H E) (fun cls d _ H => E cls d H) := takes_of rfl rfl rfl rfl
  have po : PassesOwn (model P w) (A.deeper (envOfC "_law_digits" (defScope s_law_digits) s.heap.objs.size (He.ga K "_law_digits") cdv)) (envOfC "_law_digits" (defScope s_law_digits) s.heap.objs.size (He.ga K "_law_digits") cdv) (cxOf (L2.CX P w) P w K mg base ["_law_cell_here", "_law_sizes", "_law_row", "_law_rest", "_law_seed", "_law_k", "_law_size", "_law_twice"] "_law_digits" (defScope s_law_digits) (He.ga K "_law_digits") cdv A outer s H E).xe := passes_of rfl
  exact (sb_cons (ss_setF 2 sc.nd (se_lst sp_nil))
    (sb_cons (ss_set 3 sc.nd (se_cty late_P call_int1 src_int (fr_int c) (by decide +kernel) (sa_cons (SE.pt (se_var 0)) sa_nil)))
    (sb_cons (ss_if (st_cmp op_geX sr_geX (SE.pt (se_var 3)) (SE.pt (se_pow (SE.pt se_int) (SE.pt se_int))) (nomark _)) (sb_cons (ss_set 3 sc.nd (se_sub (SE.pt (se_var 3)) (SE.pt (se_pow (SE.pt se_int) (SE.pt se_int)))))
    (sb_cons (ss_for po rfl (si_seq (se_var 1) (tg_name 6 sc.nd)) (sb_cons (ss_mut 2 PySem.F.slot_list_append PySem.F.type_list_append mt_append mut_app (sp_cons (se_mod (SE.pt (se_cty late_P call_int1 src_int (fr_int c) (by decide +kernel) (sa_cons (SE.pt (se_var 3)) sa_nil))) (SE.pt (se_var 6))) sp_nil))
    (sb_one (ss_set 3 sc.nd (se_fdiv (SE.pt (se_cty late_P call_int1 src_int (fr_int c) (by decide +kernel) (sa_cons (SE.pt (se_var 3)) sa_nil))) (SE.pt (se_var 6)))))))
    (sb_one (ss_retOw 2)))) sb_nil)
    (sb_cons (ss_set 4 sc.nd (se_mod (SE.pt (se_cty late_P call_int1 src_int (fr_int c) (by decide +kernel) (sa_cons (SE.pt (se_var 3)) sa_nil))) (SE.pt se_int)))
    (sb_cons (ss_for po rfl (si_rng1 (fr_range c) (SE.pt (se_cb late_P call_len2 src_len (fr_len c) (by decide +kernel) (sa_cons (SE.pt (se_var 1)) sa_nil))) (tg_name 5 sc.nd)) (sb_cons (ss_set 4 sc.nd (se_mod (SE.pt (se_cty late_P call_int1 src_int (fr_int c) (by decide +kernel) (sa_cons (SE.pt (se_add (SE.pt (se_add (SE.pt (se_mul (SE.pt (se_var 4)) (SE.pt se_int))) (SE.pt (se_mul (SE.pt se_int) (SE.pt (se_var 5)))))) (SE.pt se_int))) sa_nil))) (SE.pt se_int)))
    (sb_cons (ss_set 7 sc.nd (se_mod (SE.pt (se_cty late_P call_int1 src_int (fr_int c) (by decide +kernel) (sa_cons (SE.pt (se_mul (SE.pt (se_var 4)) (SE.pt (se_add (SE.pt (se_fdiv (SE.pt (se_var 4)) (SE.pt se_int))) (SE.pt se_int))))) sa_nil))) (SE.pt se_int)))
    (sb_one (ss_mut 2 PySem.F.slot_list_append PySem.F.type_list_append mt_append mut_app (sp_cons (se_mod (SE.pt (se_fdiv (SE.pt (se_var 7)) (SE.pt se_int))) (SE.pt (se_ix (SE.pt (se_var 1)) (SE.pt (se_var 5))))) sp_nil))))))
    (sb_one (ss_retOw 2)))))))
/-! ### _law_order -/
theorem sc_law_order : FnScope ["_law_row", "_law_many", "_law_left_here", "_law_turned", "_law_k"] ["_law_row", "_law_many"] (defScope s_law_order) := ⟨rfl, rfl, rfl, by decide +kernel, rfl, by decide +kernel, by decide +kernel⟩
def m_law_order : En → SR :=
  (mSeq (mSetF 2 (mListRg1 (mVar 1)))
  (mSeq (mSetF 3 (mLstL mNil))
  (mSeq (mFor (mRng1 (mVar 1) (tgName 4)) (mAppX 3 (mPop 2 (mCons (mOp modD (mCB (f1 intD) (mCons (mOp ixD (mVar 0) (mVar 4)) mNil)) (mCB (f1 lenD) (mCons (mVarT 2) mNil))) mNil) popG)))
  (mRetOw 3))))
def M_law_order : List D → Res Ob := runF 5 2 m_law_order
theorem ok_law_order (c : Ctx w K mg) : FnOk P w K mg base (L2.CX P w) 1 (He.ga K "_law_order") (fd_law_order c) ["_law_row", "_law_many"] (spF K M_law_order) := by
  have sc := sc_law_order
  refine fn_F (fn_law_order c) sc fun cdv A outer s H E hr => ?_
  have hr0 := hr
  have tk : Takes (cxOf (L2.CX P w) P w K mg base ["_law_row", "_law_many", "_law_left_here", "_law_turned", "_law_k"] "_law_order" (defScope s_law_order) (He.ga K "_law_order") cdv A outer s H E) (fun cls d _ H => E cls d H) := takes_of rfl rfl rfl rfl
  have po : PassesOwn (model P w) (A.deeper (envOfC "_law_order" (defScope s_law_order) s.heap.objs.size (He.ga K "_law_order") cdv)) (envOfC "_law_order" (defScope s_law_order) s.heap.objs.size (He.ga K "_law_order") cdv) (cxOf (L2.CX P w) P w K mg base ["_law_row", "_law_many", "_law_left_here", "_law_turned", "_law_k"] "_law_order" (defScope s_law_order) (He.ga K "_law_order") cdv A outer s H E).xe := passes_of rfl
  exact (sb_cons (ss_setF 2 sc.nd (se_listRg1 rfl (fr_list c) (fr_range c) (SE.pt (se_var 1))))
    (sb_cons (ss_setF 3 sc.nd (se_lst sp_nil))
    (sb_cons (ss_for po rfl (si_rng1 (fr_range c) (SE.pt (se_var 1)) (tg_name 4 sc.nd)) (sb_one (ss_appX 3 (sx_pop 2 PySem.F.slot_list_pop PySem.F.type_list_pop mt_popAt pop_at (sp_cons (se_mod (SE.pt (se_cty late_P call_int1 src_int (fr_int c) (by decide +kernel) (sa_cons (SE.pt (se_ix (SE.pt (se_var 0)) (SE.pt (se_var 4)))) sa_nil))) (SE.pt (se_cb late_P call_len2 src_len (fr_len c) (by decide +kernel) (sa_cons (se_varT 2) sa_nil)))) sp_nil)))))
    (sb_one (ss_retOw 3)))))
/-! ### _law_names -/
theorem sc_law_names : FnScope ["_law_digit", "_law_many", "_law_menu", "_law_place", "_law_signs", "_law_k", "_law_sign"] ["_law_digit", "_law_many"] (defScope s_law_names) := ⟨rfl, rfl, rfl, by decide +kernel, rfl, by decide +kernel, by decide +kernel⟩
def m_law_names : En → SR :=
  (mSeq (mSet 2 (mFz (mLstL (mCons (mC (.str "ada")) (mCons (mC (.str "b2")) (mCons (mC (.str "cleo")) (mCons (mC (.str "z")) (mCons (mC (.str "eve9")) (mCons (mC (.str "in")) (mCons (mC (.str "gus4gus8")) (mCons (mC (.str "ann")) (mCons (mC (.str "out")) (mCons (mC (.str "mo")) (mCons (mC (.str "hal3")) (mCons (mC (.str "k")) mNil)))))))))))))))
  (mSeq (mIfS (mTest (mOp eqD (mOp modD (mCB (f1 intD) (mCons (mVar 0) mNil)) (mC (.int 2))) (mC (.int 0)))) (mRetF (mComp (mRng1 (mVar 1) (tgName 5)) [5] (fun _ => .ok true) (mOp ixD (mVar 2) (mOp modD (mCB (f1 intD) (mCons (mOp addD (mOp mulD (mOp fdivD (mVar 0) (mC (.int 2))) (mC (.int 7))) (mOp mulD (mVar 5) (mC (.int 5)))) mNil)) (mC (.int 12)))))) mNx)
  (mSeq (mSet 3 (mOp modD (mOp fdivD (mCB (f1 intD) (mCons (mVar 0) mNil)) (mC (.int 2))) (mC (.int 5))))
  (mSeq (mSet 4 (mFz (mComp (mRng1 (mVar 1) (tgName 5)) [5] (fun _ => .ok true) (mOp ixD (mC (.str "tbxkwmzcehnf")) (mOp modD (mCB (f1 intD) (mCons (mOp addD (mOp fdivD (mVar 0) (mC (.int 10))) (mOp mulD (mVar 5) (mC (.int 7)))) mNil)) (mC (.int 12)))))))
  (mRetF (mComp (mSeqI (mVar 4) (tgName 6)) [6] (fun _ => .ok true) (mOp addD (mOp addD (mSl slD (mC (.str "anna")) mONone (mOSome (mVar 3))) (mVar 6)) (mSl slD (mC (.str "anna")) (mOSome (mVar 3)) mONone))))))))
def M_law_names : List D → Res Ob := runF 7 2 m_law_names
theorem ok_law_names (c : Ctx w K mg) : FnOk P w K mg base (L2.CX P w) 1 (He.ga K "_law_names") (fd_law_names c) ["_law_digit", "_law_many"] (spF K M_law_names) := by
  have sc := sc_law_names
  refine fn_F (fn_law_names c) sc fun cdv A outer s H E hr => ?_
  have hr0 := hr
  have tk : Takes (cxOf (L2.CX P w) P w K mg base ["_law_digit", "_law_many", "_law_menu", "_law_place", "_law_signs", "_law_k", "_law_sign"] "_law_names" (defScope s_law_names) (He.ga K "_law_names") cdv A outer s H E) (fun cls d _ H => E cls d H) := takes_of rfl rfl rfl rfl
  have po : PassesOwn (model P w) (A.deeper (envOfC "_law_names" (defScope s_law_names) s.heap.objs.size (He.ga K "_law_names") cdv)) (envOfC "_law_names" (defScope s_law_names) s.heap.objs.size (He.ga K "_law_names") cdv) (cxOf (L2.CX P w) P w K mg base ["_law_digit", "_law_many", "_law_menu", "_law_place", "_law_signs", "_law_k", "_law_sign"] "_law_names" (defScope s_law_names) (He.ga K "_law_names") cdv A outer s H E).xe := passes_of rfl
  exact (sb_cons (ss_set 2 sc.nd (SE.fz (se_lst (sp_cons se_str (sp_cons se_str (sp_cons se_str (sp_cons se_str (sp_cons se_str (sp_cons se_str (sp_cons se_str (sp_cons se_str (sp_cons se_str (sp_cons se_str (sp_cons se_str (sp_cons se_str sp_nil)))))))))))))))
    (sb_cons (ss_if (st_cmp (op_eqD (units64 hr0)) sr_eqD (SE.pt (se_mod (SE.pt (se_cty late_P call_int1 src_int (fr_int c) (by decide +kernel) (sa_cons (SE.pt (se_var 0)) sa_nil))) (SE.pt se_int))) (SE.pt se_int) (nomark _)) (sb_one (ss_retF (se_lc (slc (own := [("_law_k", 5)]) (SIc.t (ic_rng1 (fr_range c) (SE.pt (se_var 1)))) (fun _ _ _ _ _ => by exact (tg_name 5 sc.nd)) (fun _ _ _ _ _ => by exact (se_ix (SE.pt (se_var 2)) (SE.pt (se_mod (SE.pt (se_cty late_P call_int1 src_int (fr_int c) (by decide +kernel) (sa_cons (SE.pt (se_add (SE.pt (se_mul (SE.pt (se_fdiv (SE.pt (se_var 0)) (SE.pt se_int))) (SE.pt se_int))) (SE.pt (se_mul (SE.pt (se_var 5)) (SE.pt se_int))))) sa_nil))) (SE.pt se_int)))))) rfl sc.nd (blkOk_by (show blkC ["_law_digit", "_law_many", "_law_menu", "_law_place", "_law_signs", "_law_k", "_law_sign"] (defScope s_law_names) _ _ = true by decide +kernel))))) sb_nil)
    (sb_cons (ss_set 3 sc.nd (se_mod (SE.pt (se_fdiv (SE.pt (se_cty late_P call_int1 src_int (fr_int c) (by decide +kernel) (sa_cons (SE.pt (se_var 0)) sa_nil))) (SE.pt se_int))) (SE.pt se_int)))
    (sb_cons (ss_setLc 4 (slc (own := [("_law_k", 5)]) (SIc.t (ic_rng1 (fr_range c) (SE.pt (se_var 1)))) (fun _ _ _ _ _ => by exact (tg_name 5 sc.nd)) (fun _ _ _ _ _ => by exact (se_ix (SE.pt se_str) (SE.pt (se_mod (SE.pt (se_cty late_P call_int1 src_int (fr_int c) (by decide +kernel) (sa_cons (SE.pt (se_add (SE.pt (se_fdiv (SE.pt (se_var 0)) (SE.pt se_int))) (SE.pt (se_mul (SE.pt (se_var 5)) (SE.pt se_int))))) sa_nil))) (SE.pt se_int)))))) rfl sc.nd (blkOk_by (show blkC ["_law_digit", "_law_many", "_law_menu", "_law_place", "_law_signs", "_law_k", "_law_sign"] (defScope s_law_names) _ _ = true by decide +kernel)) (sw_true rfl rfl rfl (by decide +kernel)))
    (sb_one (ss_retF (se_lc (slc (own := [("_law_sign", 6)]) (SIc.t (ic_seq (se_var 4))) (fun _ _ _ _ _ => by exact (tg_name 6 sc.nd)) (fun _ _ _ _ _ => by exact (se_add (SE.pt (se_add (SE.pt (se_sl (SE.pt se_str) so_none (so_some (SE.pt (se_var 3))))) (SE.pt (se_var 6)))) (SE.pt (se_sl (SE.pt se_str) (so_some (SE.pt (se_var 3))) so_none))))) rfl sc.nd (blkOk_by (show blkC ["_law_digit", "_law_many", "_law_menu", "_law_place", "_law_signs", "_law_k", "_law_sign"] (defScope s_law_names) _ _ = true by decide +kernel)))))))))
/-! ### _law_taking -/
theorem sc_law_taking : FnScope ["_law_names_here", "_law_depths", "_law_ranked", "_law_wild", "_law_row", "_law_guest", "_law_hanging", "_law_liked", "_law_k", "_law_name"] ["_law_names_here", "_law_depths", "_law_ranked", "_law_wild", "_law_row"] (defScope s_law_taking) := ⟨rfl, rfl, rfl, by decide +kernel, rfl, by decide +kernel, by decide +kernel⟩
def m_law_taking : En → SR :=
  (mSeq (mSet 5 (mOp modD (mCB (f1 intD) (mCons (mOp ixD (mVar 4) (mC (.int 0))) mNil)) (mCB (f1 lenD) (mCons (mVar 0) mNil))))
  (mSeq (mSet 6 (mFz (mComp (mRng1 (mCB (f1 lenD) (mCons (mVar 0) mNil)) (tgName 8)) [8] (mTest (mOp gtX (mOp ixD (mVar 4) (mOp addD (mC (.int 3)) (mVar 8))) (mC (.int 0)))) (mOp ixD (mVar 0) (mVar 8)))))
  (mSeq (mIfS (mTest (mOp eqD (mCB (f1 lenD) (mCons (mVar 6) mNil)) (mC (.int 0)))) (mSet 6 (mFz (mLstL (mCons (mOp ixD (mVar 0) (mOp modD (mCB (f1 intD) (mCons (mOp ixD (mVar 4) (mC (.int 2))) mNil)) (mCB (f1 lenD) (mCons (mVar 0) mNil)))) mNil)))) mNx)
  (mSeq (mSet 7 (mFz (mComp (mSeqI (mVar 2) (tgName 9)) [9] (mTest (mOp inY (mVar 9) (mVar 6))) (mVar 9))))
  (mSeq (mIfS (mTest (mOp geX (mOp ixD (mVar 4) (mC (.int 1))) (mVar 3))) (mRet (mTupL (mCons (mOp ixD (mVar 0) (mVar 5)) (mCons (mOp ixD (mVar 6) (mOp modD (mCB (f1 intD) (mCons (mOp ixD (mVar 4) (mC (.int 2))) mNil)) (mCB (f1 lenD) (mCons (mVar 6) mNil)))) (mCons (mCB (f1 tupleD) (mCons (mVar 6) mNil)) mNil))))) mNx)
  (mRet (mTupL (mCons (mOp ixD (mVar 0) (mVar 5)) (mCons (mOp ixD (mVar 7) (mOp modD (mCB (f1 intD) (mCons (mOp ixD (mVar 4) (mC (.int 2))) mNil)) (mCB (f2 min2D) (mCons (mCB (f1 lenD) (mCons (mVar 7) mNil)) (mCons (mOp ixD (mVar 1) (mVar 5)) mNil))))) (mCons (mCB (f1 tupleD) (mCons (mVar 6) mNil)) mNil))))))))))
def M_law_taking : List D → Res D := runD 10 5 m_law_taking
theorem ok_law_taking (c : Ctx w K mg) : FnOk P w K mg base (L2.CX P w) 1 (He.ga K "_law_taking") (fd_law_taking c) ["_law_names_here", "_law_depths", "_law_ranked", "_law_wild", "_law_row"] (spD K M_law_taking) := by
  have sc := sc_law_taking
  refine fn_D (fn_law_taking c) sc fun cdv A outer s H E hr => ?_
  have hr0 := hr
  have tk : Takes (cxOf (L2.CX P w) P w K mg base ["_law_names_here", "_law_depths", "_law_ranked", "_law_wild", "_law_row", "_law_guest", "_law_hanging", "_law_liked", "_law_k", "_law_name"] "_law_taking" (defScope s_law_taking) (He.ga K "_law_taking") cdv A outer s H E) (fun cls d _ H => E cls d H) := takes_of rfl rfl rfl rfl
  have po : PassesOwn (model P w) (A.deeper (envOfC "_law_taking" (defScope s_law_taking) s.heap.objs.size (He.ga K "_law_taking") cdv)) (envOfC "_law_taking" (defScope s_law_taking) s.heap.objs.size (He.ga K "_law_taking") cdv) (cxOf (L2.CX P w) P w K mg base ["_law_names_here", "_law_depths", "_law_ranked", "_law_wild", "_law_row", "_law_guest", "_law_hanging", "_law_liked", "_law_k", "_law_name"] "_law_taking" (defScope s_law_taking) (He.ga K "_law_taking") cdv A outer s H E).xe := passes_of rfl
  exact (sb_cons (ss_set 5 sc.nd (se_mod (SE.pt (se_cty late_P call_int1 src_int (fr_int c) (by decide +kernel) (sa_cons (SE.pt (se_ix (SE.pt (se_var 4)) (SE.pt se_int))) sa_nil))) (SE.pt (se_cb late_P call_len2 src_len (fr_len c) (by decide +kernel) (sa_cons (SE.pt (se_var 0)) sa_nil)))))
    (sb_cons (ss_set 6 sc.nd (SE.fz (se_lc (slc_if (own := [("_law_k", 8)]) (SIc.t (ic_rng1 (fr_range c) (SE.pt (se_cb late_P call_len2 src_len (fr_len c) (by decide +kernel) (sa_cons (SE.pt (se_var 0)) sa_nil))))) (fun _ _ _ _ _ => by exact (tg_name 8 sc.nd)) (fun _ _ _ _ _ => by exact (st_cmp op_gtX sr_gtX (SE.pt (se_ix (SE.pt (se_var 4)) (SE.pt (se_add (SE.pt se_int) (SE.pt (se_var 8)))))) (SE.pt se_int) (nomark _))) (fun _ _ _ _ _ => by exact (se_ix (SE.pt (se_var 0)) (SE.pt (se_var 8))))) rfl sc.nd (blkOk_by (show blkC ["_law_names_here", "_law_depths", "_law_ranked", "_law_wild", "_law_row", "_law_guest", "_law_hanging", "_law_liked", "_law_k", "_law_name"] (defScope s_law_taking) _ _ = true by decide +kernel)))))
    (sb_cons (ss_if (st_cmp (op_eqD (units64 hr0)) sr_eqD (SE.pt (se_cb late_P call_len2 src_len (fr_len c) (by decide +kernel) (sa_cons (SE.pt (se_var 6)) sa_nil))) (SE.pt se_int) (nomark _)) (sb_one (ss_set 6 sc.nd (SE.fz (se_lst (sp_cons (se_ix (SE.pt (se_var 0)) (SE.pt (se_mod (SE.pt (se_cty late_P call_int1 src_int (fr_int c) (by decide +kernel) (sa_cons (SE.pt (se_ix (SE.pt (se_var 4)) (SE.pt se_int))) sa_nil))) (SE.pt (se_cb late_P call_len2 src_len (fr_len c) (by decide +kernel) (sa_cons (SE.pt (se_var 0)) sa_nil)))))) sp_nil))))) sb_nil)
    (sb_cons (ss_setLc 7 (slc_if (own := [("_law_name", 9)]) (SIc.t (ic_seq (se_var 2))) (fun _ _ _ _ _ => by exact (tg_name 9 sc.nd)) (fun _ _ _ _ _ => by exact (st_cmp (op_inY (units1 hr0) (units65 hr0)) sr_inY (SE.pt (se_var 9)) (SE.pt (se_var 6)) (by rfl))) (fun _ _ _ _ _ => by exact (se_var 9))) rfl sc.nd (blkOk_by (show blkC ["_law_names_here", "_law_depths", "_law_ranked", "_law_wild", "_law_row", "_law_guest", "_law_hanging", "_law_liked", "_law_k", "_law_name"] (defScope s_law_taking) _ _ = true by decide +kernel)) (sw_true rfl rfl rfl (by decide +kernel)))
    (sb_cons (ss_if (st_cmp op_geX sr_geX (SE.pt (se_ix (SE.pt (se_var 4)) (SE.pt se_int))) (SE.pt (se_var 3)) (nomark _)) (sb_one (ss_ret (se_tup (sp_cons (se_ix (SE.pt (se_var 0)) (SE.pt (se_var 5))) (sp_cons (se_ix (SE.pt (se_var 6)) (SE.pt (se_mod (SE.pt (se_cty late_P call_int1 src_int (fr_int c) (by decide +kernel) (sa_cons (SE.pt (se_ix (SE.pt (se_var 4)) (SE.pt se_int))) sa_nil))) (SE.pt (se_cb late_P call_len2 src_len (fr_len c) (by decide +kernel) (sa_cons (SE.pt (se_var 6)) sa_nil)))))) (sp_cons (se_cty late_P call_tupleZ src_tuple (fr_tuple c) (by decide +kernel) (sa_cons (SE.pt (se_var 6)) sa_nil)) sp_nil)))))) sb_nil)
    (sb_one (ss_ret (se_tup (sp_cons (se_ix (SE.pt (se_var 0)) (SE.pt (se_var 5))) (sp_cons (se_ix (SE.pt (se_var 7)) (SE.pt (se_mod (SE.pt (se_cty late_P call_int1 src_int (fr_int c) (by decide +kernel) (sa_cons (SE.pt (se_ix (SE.pt (se_var 4)) (SE.pt se_int))) sa_nil))) (SE.pt (se_cb late_P (call_min2 rfl) src_min2 (fr_min c) (by decide +kernel) (sa_cons (SE.pt (se_cb late_P call_len2 src_len (fr_len c) (by decide +kernel) (sa_cons (SE.pt (se_var 7)) sa_nil))) (sa_cons (SE.pt (se_ix (SE.pt (se_var 1)) (SE.pt (se_var 5)))) sa_nil))))))) (sp_cons (se_cty late_P call_tupleZ src_tuple (fr_tuple c) (by decide +kernel) (sa_cons (SE.pt (se_var 6)) sa_nil)) sp_nil)))))))))))
/-! ### _law_ties -/
theorem sc_law_ties : FnScope ["_law_names_here", "_law_ranked", "_law_wild", "_law_row", "_law_ties_here", "_law_k", "_law_one", "_law_others", "_law_two", "_law_name"] ["_law_names_here", "_law_ranked", "_law_wild", "_law_row"] (defScope s_law_ties) := ⟨rfl, rfl, rfl, by decide +kernel, rfl, by decide +kernel, by decide +kernel⟩
def m_law_ties : En → SR :=
  (mSeq (mSetF 4 (mLstL mNil))
  (mSeq (mFor (mRng1 (mOp ixD (mFz (mLstL (mCons (mC (.int 0)) (mCons (mC (.int 1)) (mCons (mC (.int 0)) (mCons (mC (.int 2)) (mCons (mC (.int 1)) (mCons (mC (.int 3)) (mCons (mC (.int 0)) (mCons (mC (.int 19)) mNil)))))))))) (mOp ixD (mVar 3) (mC (.int 0)))) (tgName 5)) (mIfS (mAnd (mTest (mOp gtX (mCB (f1 lenD) (mCons (mVar 0) mNil)) (mC (.int 1)))) (mOr (mTest (mOp ltX (mOp ixD (mVar 3) (mC (.int 0))) (mC (.int 7)))) (mTest (mOp ltX (mOp ixD (mVar 3) (mOp addD (mOp mulD (mC (.int 3)) (mVar 5)) (mC (.int 3)))) (mC (.int 4)))))) (mSeq (mSet 6 (mOp ixD (mVar 0) (mOp modD (mCB (f1 intD) (mCons (mOp ixD (mVar 3) (mOp addD (mOp mulD (mC (.int 3)) (mVar 5)) (mC (.int 1)))) mNil)) (mCB (f1 lenD) (mCons (mVar 0) mNil)))))
  (mSeq (mSet 7 (mFz (mComp (mSeqI (mVar 0) (tgName 9)) [9] (mTest (mOp neD (mVar 9) (mVar 6))) (mVar 9))))
  (mSeq (mSet 8 (mOp ixD (mVar 7) (mOp modD (mCB (f1 intD) (mCons (mOp ixD (mVar 3) (mOp addD (mOp mulD (mC (.int 3)) (mVar 5)) (mC (.int 2)))) mNil)) (mCB (f1 lenD) (mCons (mVar 7) mNil)))))
  (mIfS (mAnd (mTest (mOp gtX (mMeth "list" indexD (mVar 1) (mCons (mVar 6) mNil)) (mMeth "list" indexD (mVar 1) (mCons (mVar 8) mNil)))) (mTest (mOp ltX (mOp ixD (mVar 3) (mOp addD (mOp mulD (mC (.int 3)) (mVar 5)) (mC (.int 3)))) (mVar 2)))) (mMut 4 (mCons (mTupL (mCons (mVar 8) (mCons (mVar 6) mNil))) mNil) appG) (mMut 4 (mCons (mTupL (mCons (mVar 6) (mCons (mVar 8) mNil))) mNil) appG))))) mNx))
  (mRetOw 4)))
def M_law_ties : List D → Res Ob := runF 10 4 m_law_ties
theorem ok_law_ties (c : Ctx w K mg) : FnOk P w K mg base (L2.CX P w) 1 (He.ga K "_law_ties") (fd_law_ties c) ["_law_names_here", "_law_ranked", "_law_wild", "_law_row"] (spF K M_law_ties) := by
  have sc := sc_law_ties
  refine fn_F (fn_law_ties c) sc fun cdv A outer s H E hr => ?_
  have hr0 := hr
  have tk : Takes (cxOf (L2.CX P w) P w K mg base ["_law_names_here", "_law_ranked", "_law_wild", "_law_row", "_law_ties_here", "_law_k", "_law_one", "_law_others", "_law_two", "_law_name"] "_law_ties" (defScope s_law_ties) (He.ga K "_law_ties") cdv A outer s H E) (fun cls d _ H => E cls d H) := takes_of rfl rfl rfl rfl
  have po : PassesOwn (model P w) (A.deeper (envOfC "_law_ties" (defScope s_law_ties) s.heap.objs.size (He.ga K "_law_ties") cdv)) (envOfC "_law_ties" (defScope s_law_ties) s.heap.objs.size (He.ga K "_law_ties") cdv) (cxOf (L2.CX P w) P w K mg base ["_law_names_here", "_law_ranked", "_law_wild", "_law_row", "_law_ties_here", "_law_k", "_law_one", "_law_others", "_law_two", "_law_name"] "_law_ties" (defScope s_law_ties) (He.ga K "_law_ties") cdv A outer s H E).xe := passes_of rfl
  exact (sb_cons (ss_setF 4 sc.nd (se_lst sp_nil))
    (sb_cons (ss_for po rfl (si_rng1 (fr_range c) (SE.pt (se_ix (SE.ft (se_lst (sp_cons se_int (sp_cons se_int (sp_cons se_int (sp_cons se_int (sp_cons se_int (sp_cons se_int (sp_cons se_int (sp_cons se_int sp_nil)))))))))) (SE.pt (se_ix (SE.pt (se_var 3)) (SE.pt se_int))))) (tg_name 5 sc.nd)) (sb_one (ss_if (SW.st (sw_and (st_cmp op_gtX sr_gtX (SE.pt (se_cb late_P call_len2 src_len (fr_len c) (by decide +kernel) (sa_cons (SE.pt (se_var 0)) sa_nil))) (SE.pt se_int) (nomark _)) (sw_and1 (SW.st (sw_or (st_cmp op_ltX sr_ltX (SE.pt (se_ix (SE.pt (se_var 3)) (SE.pt se_int))) (SE.pt se_int) (nomark _)) (sw_or1 (st_cmp op_ltX sr_ltX (SE.pt (se_ix (SE.pt (se_var 3)) (SE.pt (se_add (SE.pt (se_mul (SE.pt se_int) (SE.pt (se_var 5)))) (SE.pt se_int))))) (SE.pt se_int) (nomark _)))))))) (sb_cons (ss_set 6 sc.nd (se_ix (SE.pt (se_var 0)) (SE.pt (se_mod (SE.pt (se_cty late_P call_int1 src_int (fr_int c) (by decide +kernel) (sa_cons (SE.pt (se_ix (SE.pt (se_var 3)) (SE.pt (se_add (SE.pt (se_mul (SE.pt se_int) (SE.pt (se_var 5)))) (SE.pt se_int))))) sa_nil))) (SE.pt (se_cb late_P call_len2 src_len (fr_len c) (by decide +kernel) (sa_cons (SE.pt (se_var 0)) sa_nil)))))))
    (sb_cons (ss_setLc 7 (slc_if (own := [("_law_name", 9)]) (SIc.t (ic_seq (se_var 0))) (fun _ _ _ _ _ => by exact (tg_name 9 sc.nd)) (fun _ _ _ _ _ => by exact (st_cmp (op_neD (units64 hr0)) sr_neD (SE.pt (se_var 9)) (SE.pt (se_var 6)) (nomark _))) (fun _ _ _ _ _ => by exact (se_var 9))) rfl sc.nd (blkOk_by (show blkC ["_law_names_here", "_law_ranked", "_law_wild", "_law_row", "_law_ties_here", "_law_k", "_law_one", "_law_others", "_law_two", "_law_name"] (defScope s_law_ties) _ _ = true by decide +kernel)) (sw_true rfl rfl rfl (by decide +kernel)))
    (sb_cons (ss_set 8 sc.nd (se_ix (SE.pt (se_var 7)) (SE.pt (se_mod (SE.pt (se_cty late_P call_int1 src_int (fr_int c) (by decide +kernel) (sa_cons (SE.pt (se_ix (SE.pt (se_var 3)) (SE.pt (se_add (SE.pt (se_mul (SE.pt se_int) (SE.pt (se_var 5)))) (SE.pt se_int))))) sa_nil))) (SE.pt (se_cb late_P call_len2 src_len (fr_len c) (by decide +kernel) (sa_cons (SE.pt (se_var 7)) sa_nil)))))))
    (sb_one (ss_if (SW.st (sw_and (st_cmp op_gtX sr_gtX (SE.pt (se_meth late_P PySem.F.plainAttrs_list PySem.F.slot_list_index PySem.F.type_list_index (mt_indexD (units65 hr0)) sm_index (SE.pt (se_var 1)) (sa_cons (SE.pt (se_var 6)) sa_nil))) (SE.pt (se_meth late_P PySem.F.plainAttrs_list PySem.F.slot_list_index PySem.F.type_list_index (mt_indexD (units65 hr0)) sm_index (SE.pt (se_var 1)) (sa_cons (SE.pt (se_var 8)) sa_nil))) (nomark _)) (sw_and1 (st_cmp op_ltX sr_ltX (SE.pt (se_ix (SE.pt (se_var 3)) (SE.pt (se_add (SE.pt (se_mul (SE.pt se_int) (SE.pt (se_var 5)))) (SE.pt se_int))))) (SE.pt (se_var 2)) (nomark _))))) (sb_one (ss_mut 4 PySem.F.slot_list_append PySem.F.type_list_append mt_append mut_app (sp_cons (se_tup (sp_cons (se_var 8) (sp_cons (se_var 6) sp_nil))) sp_nil))) (sb_one (ss_mut 4 PySem.F.slot_list_append PySem.F.type_list_append mt_append mut_app (sp_cons (se_tup (sp_cons (se_var 6) (sp_cons (se_var 8) sp_nil))) sp_nil)))))))) sb_nil)))
    (sb_one (ss_retOw 4))))
/-! ### _law_seen -/
theorem sc_law_seen : FnScope ["_law_script", "_law_at", "_law_upto", "_law_room", "_law_head", "_law_row", "_law_many", "_law_names_here", "_law_ranked", "_law_depths", "_law_wild", "_law_takings", "_law_count", "_law_k", "_law_ties_here", "_law_ranges", "_law_digits_here", "_law_name", "_law_digit"] ["_law_script", "_law_at", "_law_upto", "_law_room"] (defScope s_law_seen) := ⟨rfl, rfl, rfl, by decide +kernel, rfl, by decide +kernel, by decide +kernel⟩
def m_law_seen : En → SR :=
  (mSeq (mSet 4 (mFzO (mCallF M_law_digits [] (mCons (mCall M_law_cell [] (mCons (mVar 0) (mCons (mVar 1) mNil))) (mCons (mFz (mLstL (mCons (mC (.int 120)) (mCons (mC (.int 12)) (mCons (mC (.int 16)) (mCons (mC (.int 6)) (mCons (mC (.int 8)) mNil))))))) mNil)))))
  (mSeq (mSet 5 (mFzO (mCallF M_law_digits [] (mCons (mCall M_law_cell [] (mCons (mVar 0) (mCons (mOp addD (mVar 1) (mC (.int 1))) mNil))) (mCons (mFz (mOp addL (mFz (mOp addL (mFz (mOp mulL (mFz (mLstL (mCons (mC (.int 12)) mNil))) (mC (.int 12)))) (mFz (mOp mulL (mFz (mLstL (mCons (mC (.int 8)) mNil))) (mC (.int 12)))))) (mFz (mOp mulL (mFz (mLstL (mCons (mC (.int 12)) mNil))) (mC (.int 12)))))) mNil)))))
  (mSeq (mSet 6 (mCB (f2 min2D) (mCons (mVar 2) (mCons (mOp ixD (mFz (mLstL (mCons (mC (.int 3)) (mCons (mC (.int 4)) (mCons (mC (.int 2)) (mCons (mC (.int 5)) (mCons (mC (.int 3)) (mCons (mC (.int 4)) (mCons (mC (.int 6)) (mCons (mC (.int 1)) (mCons (mC (.int 5)) (mCons (mC (.int 4)) (mCons (mC (.int 3)) (mCons (mC (.int 6)) mNil)))))))))))))) (mOp ixD (mVar 4) (mC (.int 1)))) mNil))))
  (mSeq (mIfS (mTest (mOp gtX (mVar 2) (mC (.int 6)))) (mSet 6 (mCB (f2 min2D) (mCons (mVar 2) (mCons (mOp ixD (mFz (mLstL (mCons (mC (.int 7)) (mCons (mC (.int 12)) (mCons (mC (.int 9)) (mCons (mC (.int 8)) (mCons (mC (.int 6)) (mCons (mC (.int 12)) (mCons (mC (.int 10)) (mCons (mC (.int 7)) (mCons (mC (.int 11)) (mCons (mC (.int 8)) (mCons (mC (.int 9)) (mCons (mC (.int 12)) mNil)))))))))))))) (mOp ixD (mVar 4) (mC (.int 1)))) mNil)))) mNx)
  (mSeq (mSet 7 (mFzO (mCallF M_law_names [] (mCons (mOp ixD (mVar 4) (mC (.int 0))) (mCons (mVar 6) mNil)))))
  (mSeq (mSet 8 (mFz (mComp (mSeqI (mFzO (mCallF M_law_order [] (mCons (mVar 5) (mCons (mVar 6) mNil)))) (tgName 13)) [13] (fun _ => .ok true) (mOp ixD (mVar 7) (mVar 13)))))
  (mSeq (mSet 9 (mFz (mComp (mSeqI (mVar 7) (tgName 17)) [17] (fun _ => .ok true) (mOp addD (mC (.int 1)) (mCB (f1 intD) (mCons (mOp eqD (mOp ixD (mVar 4) (mC (.int 3))) (mC (.int 5))) mNil))))))
  (mSeq (mIfS (mAnd (mTest (mOp geX (mOp ixD (mVar 4) (mC (.int 3))) (mC (.int 3)))) (mTest (mOp neD (mOp ixD (mVar 4) (mC (.int 3))) (mC (.int 5))))) (mSeq (mSet 15 (mFz (mComp (mSeqI (mFz (mSl slL (mVar 5) (mOSome (mC (.int 24))) (mOSome (mC (.int 36))))) (tgName 18)) [18] (fun _ => .ok true) (mOp addD (mC (.int 1)) (mOp modD (mCB (f1 intD) (mCons (mVar 18) mNil)) (mVar 6))))))
  (mSet 9 (mFz (mComp (mRng1 (mVar 6) (tgName 13)) [13] (fun _ => .ok true) (mOp ixD (mFz (mLstL (mCons (mC (.int 1)) (mCons (mC (.int 1)) (mCons (mC (.int 2)) (mCons (mOp ixD (mVar 15) (mVar 13)) (mCons (mC (.int 3)) (mCons (mOp ixD (mVar 15) (mVar 13)) (mCons (mOp ixD (mVar 15) (mVar 13)) (mCons (mOp addD (mOp powD (mC (.int 10)) (mC (.int 20))) (mVar 13)) mNil)))))))))) (mOp ixD (mVar 5) (mOp addD (mC (.int 12)) (mVar 13)))))))) mNx)
  (mSeq (mSet 10 (mOp ixD (mFz (mLstL (mCons (mC (.int 8)) (mCons (mC (.int 8)) (mCons (mC (.int 8)) (mCons (mC (.int 7)) (mCons (mC (.int 7)) (mCons (mC (.int 6)) (mCons (mC (.int 4)) (mCons (mC (.int 1)) mNil)))))))))) (mOp ixD (mVar 4) (mC (.int 4)))))
  (mSeq (mSetF 11 (mLstL mNil))
  (mSeq (mSet 12 (mCB (f2 min2D) (mCons (mVar 3) (mCons (mOp ixD (mFz (mLstL (mCons (mC (.int 3)) (mCons (mC (.int 4)) (mCons (mC (.int 2)) (mCons (mC (.int 5)) (mCons (mC (.int 6)) (mCons (mC (.int 0)) (mCons (mC (.int 8)) (mCons (mC (.int 4)) (mCons (mC (.int 5)) (mCons (mC (.int 1)) (mCons (mC (.int 3)) (mCons (mC (.int 7)) (mCons (mC (.int 10)) (mCons (mC (.int 6)) (mCons (mC (.int 12)) (mCons (mC (.int 9)) mNil)))))))))))))))))) (mOp ixD (mVar 4) (mC (.int 2)))) mNil))))
  (mSeq (mIfS (mTest (mOp gtX (mVar 3) (mC (.int 12)))) (mSet 12 (mOp ixD (mFz (mLstL (mCons (mC (.int 20)) (mCons (mC (.int 60)) (mCons (mC (.int 30)) (mCons (mC (.int 15)) (mCons (mC (.int 45)) (mCons (mC (.int 13)) (mCons (mC (.int 60)) (mCons (mC (.int 25)) (mCons (mC (.int 17)) (mCons (mC (.int 50)) (mCons (mC (.int 24)) (mCons (mC (.int 36)) (mCons (mC (.int 15)) (mCons (mC (.int 59)) (mCons (mC (.int 40)) (mCons (mC (.int 21)) mNil)))))))))))))))))) (mOp ixD (mVar 4) (mC (.int 2))))) mNx)
  (mSeq (mFor (mRng1 (mVar 12) (tgName 13)) (mSeq (mSet 16 (mFzO (mCallF M_law_digits [] (mCons (mCall M_law_cell [] (mCons (mVar 0) (mCons (mOp addD (mOp addD (mVar 1) (mC (.int 3))) (mOp modD (mCB (f1 intD) (mCons (mVar 13) mNil)) (mC (.int 50)))) mNil))) (mCons (mFz (mOp mulL (mFz (mOp addL (mFz (mLstL (mCons (mC (.int 12)) (mCons (mC (.int 8)) (mCons (mC (.int 12)) mNil))))) (mFz (mOp mulL (mFz (mLstL (mCons (mC (.int 3)) mNil))) (mC (.int 12)))))) (mC (.int 2)))) mNil)))))
  (mMut 11 (mCons (mCall M_law_taking [] (mCons (mVar 7) (mCons (mVar 9) (mCons (mVar 8) (mCons (mVar 10) (mCons (mFz (mSl slL (mVar 16) (mOSome (mOp mulD (mOp fdivD (mVar 13) (mC (.int 50))) (mC (.int 15)))) mONone)) mNil)))))) mNil) appG)))
  (mSeq (mSet 14 (mFzO (mCallF M_law_ties [] (mCons (mVar 7) (mCons (mVar 8) (mCons (mVar 10) (mCons (mFzO (mCallF M_law_digits [] (mCons (mCall M_law_cell [] (mCons (mVar 0) (mCons (mOp addD (mVar 1) (mC (.int 2))) mNil))) (mCons (mFz (mOp addL (mFz (mLstL (mCons (mC (.int 8)) mNil))) (mFz (mOp mulL (mFz (mLstL (mCons (mC (.int 12)) (mCons (mC (.int 11)) (mCons (mC (.int 8)) mNil))))) (mC (.int 19)))))) mNil)))) mNil)))))))
  (mFrz 11 (mRetF (mLstL (mCons (mVar 7) (mCons (mVar 11) (mCons (mVar 9) (mCons (mVar 14) mNil)))))))))))))))))))))
def M_law_seen : List D → Res Ob := runF 19 4 m_law_seen
theorem ok_law_seen (c : Ctx w K mg) : FnOk P w K mg base (L2.CX P w) 2 (He.ga K "_law_seen") (fd_law_seen c) ["_law_script", "_law_at", "_law_upto", "_law_room"] (spF K M_law_seen) := by
  have sc := sc_law_seen
  refine fn_F (fn_law_seen c) sc fun cdv A outer s H E hr => ?_
  have hr0 := hr
  have tk : Takes (cxOf (L2.CX P w) P w K mg base ["_law_script", "_law_at", "_law_upto", "_law_room", "_law_head", "_law_row", "_law_many", "_law_names_here", "_law_ranked", "_law_depths", "_law_wild", "_law_takings", "_law_count", "_law_k", "_law_ties_here", "_law_ranges", "_law_digits_here", "_law_name", "_law_digit"] "_law_seen" (defScope s_law_seen) (He.ga K "_law_seen") cdv A outer s H E) (fun cls d _ H => E cls d H) := takes_of rfl rfl rfl rfl
  have po : PassesOwn (model P w) (A.deeper (envOfC "_law_seen" (defScope s_law_seen) s.heap.objs.size (He.ga K "_law_seen") cdv)) (envOfC "_law_seen" (defScope s_law_seen) s.heap.objs.size (He.ga K "_law_seen") cdv) (cxOf (L2.CX P w) P w K mg base ["_law_script", "_law_at", "_law_upto", "_law_room", "_law_head", "_law_row", "_law_many", "_law_names_here", "_law_ranked", "_law_depths", "_law_wild", "_law_takings", "_law_count", "_law_k", "_law_ties_here", "_law_ranges", "_law_digits_here", "_law_name", "_law_digit"] "_law_seen" (defScope s_law_seen) (He.ga K "_law_seen") cdv A outer s H E).xe := passes_of rfl
  exact (sb_cons (ss_set 4 sc.nd (SE.fzO (se_callF (ok_law_digits c) (hr0.mono (by omega)) tk (gl_law_digits c) (kp_law_digits c) (bd_law_digits c) .nil (fun _ => repsNil) (sp_cons (se_call (ok_law_cell c) (hr0.mono (by omega)) tk (gl_law_cell c) (kp_law_cell c) (bd_law_cell c) .nil (fun _ => repsNil) (sp_cons (se_var 0) (sp_cons (se_var 1) sp_nil))) (sp_cons (SE.fz (se_lst (sp_cons se_int (sp_cons se_int (sp_cons se_int (sp_cons se_int (sp_cons se_int sp_nil))))))) sp_nil)))))
    (sb_cons (ss_set 5 sc.nd (SE.fzO (se_callF (ok_law_digits c) (hr0.mono (by omega)) tk (gl_law_digits c) (kp_law_digits c) (bd_law_digits c) .nil (fun _ => repsNil) (sp_cons (se_call (ok_law_cell c) (hr0.mono (by omega)) tk (gl_law_cell c) (kp_law_cell c) (bd_law_cell c) .nil (fun _ => repsNil) (sp_cons (se_var 0) (sp_cons (se_add (SE.pt (se_var 1)) (SE.pt se_int)) sp_nil))) (sp_cons (SE.fz (se_addL (SE.ft (se_addL (SE.ft (se_mulL (SE.ft (se_lst (sp_cons se_int sp_nil))) (SE.pt se_int))) (SE.ft (se_mulL (SE.ft (se_lst (sp_cons se_int sp_nil))) (SE.pt se_int))))) (SE.ft (se_mulL (SE.ft (se_lst (sp_cons se_int sp_nil))) (SE.pt se_int))))) sp_nil)))))
    (sb_cons (ss_set 6 sc.nd (se_cb late_P (call_min2 rfl) src_min2 (fr_min c) (by decide +kernel) (sa_cons (SE.pt (se_var 2)) (sa_cons (SE.pt (se_ix (SE.ft (se_lst (sp_cons se_int (sp_cons se_int (sp_cons se_int (sp_cons se_int (sp_cons se_int (sp_cons se_int (sp_cons se_int (sp_cons se_int (sp_cons se_int (sp_cons se_int (sp_cons se_int (sp_cons se_int sp_nil)))))))))))))) (SE.pt (se_ix (SE.pt (se_var 4)) (SE.pt se_int))))) sa_nil))))
    (sb_cons (ss_if (st_cmp op_gtX sr_gtX (SE.pt (se_var 2)) (SE.pt se_int) (nomark _)) (sb_one (ss_set 6 sc.nd (se_cb late_P (call_min2 rfl) src_min2 (fr_min c) (by decide +kernel) (sa_cons (SE.pt (se_var 2)) (sa_cons (SE.pt (se_ix (SE.ft (se_lst (sp_cons se_int (sp_cons se_int (sp_cons se_int (sp_cons se_int (sp_cons se_int (sp_cons se_int (sp_cons se_int (sp_cons se_int (sp_cons se_int (sp_cons se_int (sp_cons se_int (sp_cons se_int sp_nil)))))))))))))) (SE.pt (se_ix (SE.pt (se_var 4)) (SE.pt se_int))))) sa_nil))))) sb_nil)
    (sb_cons (ss_set 7 sc.nd (SE.fzO (se_callF (ok_law_names c) (hr0.mono (by omega)) tk (gl_law_names c) (kp_law_names c) (bd_law_names c) .nil (fun _ => repsNil) (sp_cons (se_ix (SE.pt (se_var 4)) (SE.pt se_int)) (sp_cons (se_var 6) sp_nil)))))
    (sb_cons (ss_setLc 8 (slc (own := [("_law_k", 13)]) (SIc.t (ic_seq (SE.fzO (se_callF (ok_law_order c) (hr0.mono (by omega)) tk (gl_law_order c) (kp_law_order c) (bd_law_order c) .nil (fun _ => repsNil) (sp_cons (se_var 5) (sp_cons (se_var 6) sp_nil)))))) (fun _ _ _ _ _ => by exact (tg_name 13 sc.nd)) (fun _ _ _ _ _ => by exact (se_ix (SE.pt (se_var 7)) (SE.pt (se_var 13))))) rfl sc.nd (blkOk_by (show blkC ["_law_script", "_law_at", "_law_upto", "_law_room", "_law_head", "_law_row", "_law_many", "_law_names_here", "_law_ranked", "_law_depths", "_law_wild", "_law_takings", "_law_count", "_law_k", "_law_ties_here", "_law_ranges", "_law_digits_here", "_law_name", "_law_digit"] (defScope s_law_seen) _ _ = true by decide +kernel)) (sw_true rfl rfl rfl (by decide +kernel)))
    (sb_cons (ss_setLc 9 (slc (own := [("_law_name", 17)]) (SIc.t (ic_seq (se_var 7))) (fun _ _ _ _ _ => by exact (tg_name 17 sc.nd)) (fun _ _ _ _ _ => by exact (se_add (SE.pt se_int) (SE.pt (se_cty late_P call_int1 src_int (fr_int c) (by decide +kernel) (sa_cons (SE.pt (se_cmp late_P (op_eqD (units64 hr0)) sr_eqD (SE.pt (se_ix (SE.pt (se_var 4)) (SE.pt se_int))) (SE.pt se_int) (nomark _))) sa_nil)))))) rfl sc.nd (blkOk_by (show blkC ["_law_script", "_law_at", "_law_upto", "_law_room", "_law_head", "_law_row", "_law_many", "_law_names_here", "_law_ranked", "_law_depths", "_law_wild", "_law_takings", "_law_count", "_law_k", "_law_ties_here", "_law_ranges", "_law_digits_here", "_law_name", "_law_digit"] (defScope s_law_seen) _ _ = true by decide +kernel)) (sw_true rfl rfl rfl (by decide +kernel)))
    (sb_cons (ss_if (SW.st (sw_and (st_cmp op_geX sr_geX (SE.pt (se_ix (SE.pt (se_var 4)) (SE.pt se_int))) (SE.pt se_int) (nomark _)) (sw_and1 (st_cmp (op_neD (units64 hr0)) sr_neD (SE.pt (se_ix (SE.pt (se_var 4)) (SE.pt se_int))) (SE.pt se_int) (nomark _))))) (sb_cons (ss_set 15 sc.nd (SE.fz (se_lc (slc (own := [("_law_digit", 18)]) (SIc.t (ic_seq (SE.fz (se_slL (SE.pt (se_var 5)) (so_some (SE.pt se_int)) (so_some (SE.pt se_int)))))) (fun _ _ _ _ _ => by exact (tg_name 18 sc.nd)) (fun _ _ _ _ _ => by exact (se_add (SE.pt se_int) (SE.pt (se_mod (SE.pt (se_cty late_P call_int1 src_int (fr_int c) (by decide +kernel) (sa_cons (SE.pt (se_var 18)) sa_nil))) (SE.pt (se_var 6))))))) rfl sc.nd (blkOk_by (show blkC ["_law_script", "_law_at", "_law_upto", "_law_room", "_law_head", "_law_row", "_law_many", "_law_names_here", "_law_ranked", "_law_depths", "_law_wild", "_law_takings", "_law_count", "_law_k", "_law_ties_here", "_law_ranges", "_law_digits_here", "_law_name", "_law_digit"] (defScope s_law_seen) _ _ = true by decide +kernel)))))
    (sb_one (ss_setLc 9 (slc (own := [("_law_k", 13)]) (SIc.t (ic_rng1 (fr_range c) (SE.pt (se_var 6)))) (fun _ _ _ _ _ => by exact (tg_name 13 sc.nd)) (fun _ _ _ _ _ => by exact (se_ix (SE.ft (se_lst (sp_cons se_int (sp_cons se_int (sp_cons se_int (sp_cons (se_ix (SE.pt (se_var 15)) (SE.pt (se_var 13))) (sp_cons se_int (sp_cons (se_ix (SE.pt (se_var 15)) (SE.pt (se_var 13))) (sp_cons (se_ix (SE.pt (se_var 15)) (SE.pt (se_var 13))) (sp_cons (se_add (SE.pt (se_pow (SE.pt se_int) (SE.pt se_int))) (SE.pt (se_var 13))) sp_nil)))))))))) (SE.pt (se_ix (SE.pt (se_var 5)) (SE.pt (se_add (SE.pt se_int) (SE.pt (se_var 13))))))))) rfl sc.nd (blkOk_by (show blkC ["_law_script", "_law_at", "_law_upto", "_law_room", "_law_head", "_law_row", "_law_many", "_law_names_here", "_law_ranked", "_law_depths", "_law_wild", "_law_takings", "_law_count", "_law_k", "_law_ties_here", "_law_ranges", "_law_digits_here", "_law_name", "_law_digit"] (defScope s_law_seen) _ _ = true by decide +kernel)) (sw_true rfl rfl rfl (by decide +kernel))))) sb_nil)
    (sb_cons (ss_set 10 sc.nd (se_ix (SE.ft (se_lst (sp_cons se_int (sp_cons se_int (sp_cons se_int (sp_cons se_int (sp_cons se_int (sp_cons se_int (sp_cons se_int (sp_cons se_int sp_nil)))))))))) (SE.pt (se_ix (SE.pt (se_var 4)) (SE.pt se_int)))))
    (sb_cons (ss_setF 11 sc.nd (se_lst sp_nil))
    (sb_cons (ss_set 12 sc.nd (se_cb late_P (call_min2 rfl) src_min2 (fr_min c) (by decide +kernel) (sa_cons (SE.pt (se_var 3)) (sa_cons (SE.pt (se_ix (SE.ft (se_lst (sp_cons se_int (sp_cons se_int (sp_cons se_int (sp_cons se_int (sp_cons se_int (sp_cons se_int (sp_cons se_int (sp_cons se_int (sp_cons se_int (sp_cons se_int (sp_cons se_int (sp_cons se_int (sp_cons se_int (sp_cons se_int (sp_cons se_int (sp_cons se_int sp_nil)))))))))))))))))) (SE.pt (se_ix (SE.pt (se_var 4)) (SE.pt se_int))))) sa_nil))))
    (sb_cons (ss_if (st_cmp op_gtX sr_gtX (SE.pt (se_var 3)) (SE.pt se_int) (nomark _)) (sb_one (ss_set 12 sc.nd (se_ix (SE.ft (se_lst (sp_cons se_int (sp_cons se_int (sp_cons se_int (sp_cons se_int (sp_cons se_int (sp_cons se_int (sp_cons se_int (sp_cons se_int (sp_cons se_int (sp_cons se_int (sp_cons se_int (sp_cons se_int (sp_cons se_int (sp_cons se_int (sp_cons se_int (sp_cons se_int sp_nil)))))))))))))))))) (SE.pt (se_ix (SE.pt (se_var 4)) (SE.pt se_int)))))) sb_nil)
    (sb_cons (ss_for po rfl (si_rng1 (fr_range c) (SE.pt (se_var 12)) (tg_name 13 sc.nd)) (sb_cons (ss_set 16 sc.nd (SE.fzO (se_callF (ok_law_digits c) (hr0.mono (by omega)) tk (gl_law_digits c) (kp_law_digits c) (bd_law_digits c) .nil (fun _ => repsNil) (sp_cons (se_call (ok_law_cell c) (hr0.mono (by omega)) tk (gl_law_cell c) (kp_law_cell c) (bd_law_cell c) .nil (fun _ => repsNil) (sp_cons (se_var 0) (sp_cons (se_add (SE.pt (se_add (SE.pt (se_var 1)) (SE.pt se_int))) (SE.pt (se_mod (SE.pt (se_cty late_P call_int1 src_int (fr_int c) (by decide +kernel) (sa_cons (SE.pt (se_var 13)) sa_nil))) (SE.pt se_int)))) sp_nil))) (sp_cons (SE.fz (se_mulL (SE.ft (se_addL (SE.ft (se_lst (sp_cons se_int (sp_cons se_int (sp_cons se_int sp_nil))))) (SE.ft (se_mulL (SE.ft (se_lst (sp_cons se_int sp_nil))) (SE.pt se_int))))) (SE.pt se_int))) sp_nil)))))
    (sb_one (ss_mut 11 PySem.F.slot_list_append PySem.F.type_list_append mt_append mut_app (sp_cons (se_call (ok_law_taking c) (hr0.mono (by omega)) tk (gl_law_taking c) (kp_law_taking c) (bd_law_taking c) .nil (fun _ => repsNil) (sp_cons (se_var 7) (sp_cons (se_var 9) (sp_cons (se_var 8) (sp_cons (se_var 10) (sp_cons (SE.fz (se_slL (SE.pt (se_var 16)) (so_some (SE.pt (se_mul (SE.pt (se_fdiv (SE.pt (se_var 13)) (SE.pt se_int))) (SE.pt se_int)))) so_none)) sp_nil)))))) sp_nil)))))
    (sb_cons (ss_set 14 sc.nd (SE.fzO (se_callF (ok_law_ties c) (hr0.mono (by omega)) tk (gl_law_ties c) (kp_law_ties c) (bd_law_ties c) .nil (fun _ => repsNil) (sp_cons (se_var 7) (sp_cons (se_var 8) (sp_cons (se_var 10) (sp_cons (SE.fzO (se_callF (ok_law_digits c) (hr0.mono (by omega)) tk (gl_law_digits c) (kp_law_digits c) (bd_law_digits c) .nil (fun _ => repsNil) (sp_cons (se_call (ok_law_cell c) (hr0.mono (by omega)) tk (gl_law_cell c) (kp_law_cell c) (bd_law_cell c) .nil (fun _ => repsNil) (sp_cons (se_var 0) (sp_cons (se_add (SE.pt (se_var 1)) (SE.pt se_int)) sp_nil))) (sp_cons (SE.fz (se_addL (SE.ft (se_lst (sp_cons se_int sp_nil))) (SE.ft (se_mulL (SE.ft (se_lst (sp_cons se_int (sp_cons se_int (sp_cons se_int sp_nil))))) (SE.pt se_int))))) sp_nil)))) sp_nil)))))))
    (sb_one (ss_frz 11 (ss_retF (se_lst (sp_cons (se_var 7) (sp_cons (se_var 11) (sp_cons (se_var 9) (sp_cons (se_var 14) sp_nil))))))))))))))))))))))
/-! ### _law_explains -/
theorem sc_law_explains : FnScope ["_law_order_here", "_law_taking_here", "_law_depth", "_law_names_here", "_law_ahead", "_law_cloak"] ["_law_order_here", "_law_taking_here", "_law_depth"] (defScope s_law_explains) := ⟨rfl, rfl, rfl, by decide +kernel, rfl, by decide +kernel, by decide +kernel⟩
def m_law_explains : En → SR :=
  (mSeq (mSet 3 (mFz (mCB (f1 listL) (mCons (mVar 0) mNil))))
  (mSeq (mSet 4 (mFz (mSl slL (mVar 3) mONone (mOSome (mMeth "list" indexD (mVar 3) (mCons (mOp ixD (mVar 1) (mC (.int 1))) mNil))))))
  (mRet (mOp ltX (mCB (f1 lenD) (mCons (mFz (mComp (mSeqI (mOp ixD (mVar 1) (mC (.int 2))) (tgName 5)) [5] (mTest (mOp inY (mVar 5) (mVar 4))) (mVar 5))) mNil)) (mVar 2)))))
def M_law_explains : List D → Res D := runD 6 3 m_law_explains
theorem ok_law_explains (c : Ctx w K mg) : FnOk P w K mg base (L2.CX P w) 1 (He.ga K "_law_explains") (fd_law_explains c) ["_law_order_here", "_law_taking_here", "_law_depth"] (spD K M_law_explains) := by
  have sc := sc_law_explains
  refine fn_D (fn_law_explains c) sc fun cdv A outer s H E hr => ?_
  have hr0 := hr
  have tk : Takes (cxOf (L2.CX P w) P w K mg base ["_law_order_here", "_law_taking_here", "_law_depth", "_law_names_here", "_law_ahead", "_law_cloak"] "_law_explains" (defScope s_law_explains) (He.ga K "_law_explains") cdv A outer s H E) (fun cls d _ H => E cls d H) := takes_of rfl rfl rfl rfl
  have po : PassesOwn (model P w) (A.deeper (envOfC "_law_explains" (defScope s_law_explains) s.heap.objs.size (He.ga K "_law_explains") cdv)) (envOfC "_law_explains" (defScope s_law_explains) s.heap.objs.size (He.ga K "_law_explains") cdv) (cxOf (L2.CX P w) P w K mg base ["_law_order_here", "_law_taking_here", "_law_depth", "_law_names_here", "_law_ahead", "_law_cloak"] "_law_explains" (defScope s_law_explains) (He.ga K "_law_explains") cdv A outer s H E).xe := passes_of rfl
  exact (sb_cons (ss_set 3 sc.nd (SE.fz (se_cty late_F call_list_of src_list (fr_list c) (by decide +kernel) (sa_cons (SE.pt (se_var 0)) sa_nil))))
    (sb_cons (ss_set 4 sc.nd (SE.fz (se_slL (SE.pt (se_var 3)) so_none (so_some (SE.pt (se_meth late_P PySem.F.plainAttrs_list PySem.F.slot_list_index PySem.F.type_list_index (mt_indexD (units65 hr0)) sm_index (SE.pt (se_var 3)) (sa_cons (SE.pt (se_ix (SE.pt (se_var 1)) (SE.pt se_int))) sa_nil)))))))
    (sb_one (ss_ret (se_cmp late_P op_ltX sr_ltX (SE.pt (se_cb late_P call_len2 src_len (fr_len c) (by decide +kernel) (sa_cons (SE.ft (se_lc (slc_if (own := [("_law_cloak", 5)]) (SIc.t (ic_seq (se_ix (SE.pt (se_var 1)) (SE.pt se_int)))) (fun _ _ _ _ _ => by exact (tg_name 5 sc.nd)) (fun _ _ _ _ _ => by exact (st_cmp (op_inY (units1 hr0) (units65 hr0)) sr_inY (SE.pt (se_var 5)) (SE.pt (se_var 4)) (by rfl))) (fun _ _ _ _ _ => by exact (se_var 5))) rfl sc.nd (blkOk_by (show blkC ["_law_order_here", "_law_taking_here", "_law_depth", "_law_names_here", "_law_ahead", "_law_cloak"] (defScope s_law_explains) _ _ = true by decide +kernel)))) sa_nil))) (SE.pt (se_var 2)) (nomark _))))))
/-! ### _law_fits -/
theorem sc_law_fits : FnScope ["_law_seen_here", "_law_order_here", "_law_names_here", "_law_taking_here", "_law_tie"] ["_law_seen_here", "_law_order_here"] (defScope s_law_fits) := ⟨rfl, rfl, rfl, by decide +kernel, rfl, by decide +kernel, by decide +kernel⟩
def m_law_fits : En → SR :=
  (mSeq (mSet 2 (mFz (mCB (f1 listL) (mCons (mVar 1) mNil))))
  (mSeq (mFor (mSeqI (mOp ixD (mVar 0) (mC (.int 1))) (tgName 3)) (mIfS (mNot (mTest (mCall M_law_explains [] (mCons (mVar 2) (mCons (mVar 3) (mCons (mOp ixD (mOp ixD (mVar 0) (mC (.int 2))) (mMeth "list" indexD (mOp ixD (mVar 0) (mC (.int 0))) (mCons (mOp ixD (mVar 3) (mC (.int 0))) mNil))) mNil)))))) (mRet (mC (.bl false))) mNx))
  (mSeq (mFor (mSeqI (mOp ixD (mVar 0) (mC (.int 3))) (tgName 4)) (mIfS (mTest (mOp gtX (mMeth "list" indexD (mVar 2) (mCons (mOp ixD (mVar 4) (mC (.int 0))) mNil)) (mMeth "list" indexD (mVar 2) (mCons (mOp ixD (mVar 4) (mC (.int 1))) mNil)))) (mRet (mC (.bl false))) mNx))
  (mRet (mC (.bl true))))))
def M_law_fits : List D → Res D := runD 5 2 m_law_fits
theorem ok_law_fits (c : Ctx w K mg) : FnOk P w K mg base (L2.CX P w) 2 (He.ga K "_law_fits") (fd_law_fits c) ["_law_seen_here", "_law_order_here"] (spD K M_law_fits) := by
  have sc := sc_law_fits
  refine fn_D (fn_law_fits c) sc fun cdv A outer s H E hr => ?_
  have hr0 := hr
  have tk : Takes (cxOf (L2.CX P w) P w K mg base ["_law_seen_here", "_law_order_here", "_law_names_here", "_law_taking_here", "_law_tie"] "_law_fits" (defScope s_law_fits) (He.ga K "_law_fits") cdv A outer s H E) (fun cls d _ H => E cls d H) := takes_of rfl rfl rfl rfl
  have po : PassesOwn (model P w) (A.deeper (envOfC "_law_fits" (defScope s_law_fits) s.heap.objs.size (He.ga K "_law_fits") cdv)) (envOfC "_law_fits" (defScope s_law_fits) s.heap.objs.size (He.ga K "_law_fits") cdv) (cxOf (L2.CX P w) P w K mg base ["_law_seen_here", "_law_order_here", "_law_names_here", "_law_taking_here", "_law_tie"] "_law_fits" (defScope s_law_fits) (He.ga K "_law_fits") cdv A outer s H E).xe := passes_of rfl
  exact (sb_cons (ss_set 2 sc.nd (SE.fz (se_cty late_F call_list_of src_list (fr_list c) (by decide +kernel) (sa_cons (SE.pt (se_var 1)) sa_nil))))
    (sb_cons (ss_for po rfl (si_seq (se_ix (SE.pt (se_var 0)) (SE.pt se_int)) (tg_name 3 sc.nd)) (sb_one (ss_if (st_not (st_val (SE.pt (se_call (ok_law_explains c) (hr0.mono (by omega)) tk (gl_law_explains c) (kp_law_explains c) (bd_law_explains c) .nil (fun _ => repsNil) (sp_cons (se_var 2) (sp_cons (se_var 3) (sp_cons (se_ix (SE.pt (se_ix (SE.pt (se_var 0)) (SE.pt se_int))) (SE.pt (se_meth late_P PySem.F.plainAttrs_list PySem.F.slot_list_index PySem.F.type_list_index (mt_indexD (units65 hr0)) sm_index (SE.pt (se_ix (SE.pt (se_var 0)) (SE.pt se_int))) (sa_cons (SE.pt (se_ix (SE.pt (se_var 3)) (SE.pt se_int))) sa_nil)))) sp_nil))))))) (sb_one (ss_ret se_bl)) sb_nil)))
    (sb_cons (ss_for po rfl (si_seq (se_ix (SE.pt (se_var 0)) (SE.pt se_int)) (tg_name 4 sc.nd)) (sb_one (ss_if (st_cmp op_gtX sr_gtX (SE.pt (se_meth late_P PySem.F.plainAttrs_list PySem.F.slot_list_index PySem.F.type_list_index (mt_indexD (units65 hr0)) sm_index (SE.pt (se_var 2)) (sa_cons (SE.pt (se_ix (SE.pt (se_var 4)) (SE.pt se_int))) sa_nil))) (SE.pt (se_meth late_P PySem.F.plainAttrs_list PySem.F.slot_list_index PySem.F.type_list_index (mt_indexD (units65 hr0)) sm_index (SE.pt (se_var 2)) (sa_cons (SE.pt (se_ix (SE.pt (se_var 4)) (SE.pt se_int))) sa_nil))) (nomark _)) (sb_one (ss_ret se_bl)) sb_nil)))
    (sb_one (ss_ret se_bl)))))
/-! ### _law_orders -/
theorem sc_law_orders : FnScope ["_law_names_here", "_law_rows", "_law_k", "_law_grown", "_law_row", "_law_name"] ["_law_names_here"] (defScope s_law_orders) := ⟨rfl, rfl, rfl, by decide +kernel, rfl, by decide +kernel, by decide +kernel⟩
def m_law_orders : En → SR :=
  (mSeq (mSet 1 (mFz (mLstL (mCons (mTupL mNil) mNil))))
  (mSeq (mFor (mRng1 (mCB (f1 lenD) (mCons (mVar 0) mNil)) (tgName 2)) (mSeq (mSetF 3 (mLstL mNil))
  (mSeq (mFor (mSeqI (mVar 1) (tgName 4)) (mFor (mSeqI (mVar 0) (tgName 5)) (mIfS (mTest (mOp niY (mVar 5) (mVar 4))) (mMut 3 (mCons (mOp addD (mVar 4) (mTupL (mCons (mVar 5) mNil))) mNil) appG) mNx)))
  (mSet 1 (mFz (mCB (f1 listL) (mCons (mVarT 3) mNil)))))))
  (mRet (mVar 1))))
def M_law_orders : List D → Res D := runD 6 1 m_law_orders
theorem ok_law_orders (c : Ctx w K mg) : FnOk P w K mg base (L2.CX P w) 1 (He.ga K "_law_orders") (fd_law_orders c) ["_law_names_here"] (spD K M_law_orders) := by
  have sc := sc_law_orders
  refine fn_D (fn_law_orders c) sc fun cdv A outer s H E hr => ?_
  have hr0 := hr
  have tk : Takes (cxOf (L2.CX P w) P w K mg base ["_law_names_here", "_law_rows", "_law_k", "_law_grown", "_law_row", "_law_name"] "_law_orders" (defScope s_law_orders) (He.ga K "_law_orders") cdv A outer s H E) (fun cls d _ H => E cls d H) := takes_of rfl rfl rfl rfl
  have po : PassesOwn (model P w) (A.deeper (envOfC "_law_orders" (defScope s_law_orders) s.heap.objs.size (He.ga K "_law_orders") cdv)) (envOfC "_law_orders" (defScope s_law_orders) s.heap.objs.size (He.ga K "_law_orders") cdv) (cxOf (L2.CX P w) P w K mg base ["_law_names_here", "_law_rows", "_law_k", "_law_grown", "_law_row", "_law_name"] "_law_orders" (defScope s_law_orders) (He.ga K "_law_orders") cdv A outer s H E).xe := passes_of rfl
  exact (sb_cons (ss_set 1 sc.nd (SE.fz (se_lst (sp_cons (se_tup sp_nil) sp_nil))))
    (sb_cons (ss_for po rfl (si_rng1 (fr_range c) (SE.pt (se_cb late_P call_len2 src_len (fr_len c) (by decide +kernel) (sa_cons (SE.pt (se_var 0)) sa_nil))) (tg_name 2 sc.nd)) (sb_cons (ss_setF 3 sc.nd (se_lst sp_nil))
    (sb_cons (ss_for po rfl (si_seq (se_var 1) (tg_name 4 sc.nd)) (sb_one (ss_for po rfl (si_seq (se_var 0) (tg_name 5 sc.nd)) (sb_one (ss_if (st_cmp (op_niY (units1 hr0) (units65 hr0)) sr_niY (SE.pt (se_var 5)) (SE.pt (se_var 4)) (by rfl)) (sb_one (ss_mut 3 PySem.F.slot_list_append PySem.F.type_list_append mt_append mut_app (sp_cons (se_add (SE.pt (se_var 4)) (SE.pt (se_tup (sp_cons (se_var 5) sp_nil)))) sp_nil))) sb_nil)))))
    (sb_one (ss_set 1 sc.nd (SE.fz (se_cty late_F call_list_of src_list (fr_list c) (by decide +kernel) (sa_cons (se_varT 3) sa_nil))))))))
    (sb_one (ss_ret (se_var 1)))))
/-! ### _law_free -/
theorem sc_law_free : FnScope ["_law_seen_here", "_law_left_here", "_law_cloak", "_law_taking_here", "_law_tie", "_law_many", "_law_other"] ["_law_seen_here", "_law_left_here", "_law_cloak"] (defScope s_law_free) := ⟨rfl, rfl, rfl, by decide +kernel, rfl, by decide +kernel, by decide +kernel⟩
def m_law_free : En → SR :=
  (mSeq (mFor (mSeqI (mOp ixD (mVar 0) (mC (.int 1))) (tgName 3)) (mIfS (mTest (mOp eqD (mOp ixD (mVar 3) (mC (.int 1))) (mVar 2))) (mSeq (mSet 5 (mCB (f1 lenD) (mCons (mFz (mComp (mSeqI (mOp ixD (mVar 3) (mC (.int 2))) (tgName 6)) [6] (mTest (mOp inY (mVar 6) (mVar 1))) (mVar 6))) mNil)))
  (mIfS (mTest (mOp gtX (mVar 5) (mOp ixD (mOp ixD (mVar 0) (mC (.int 2))) (mMeth "list" indexD (mOp ixD (mVar 0) (mC (.int 0))) (mCons (mOp ixD (mVar 3) (mC (.int 0))) mNil))))) (mRet (mC (.bl false))) mNx)) mNx))
  (mSeq (mFor (mSeqI (mOp ixD (mVar 0) (mC (.int 3))) (tgName 4)) (mIfS (mAnd (mTest (mOp eqD (mOp ixD (mVar 4) (mC (.int 0))) (mVar 2))) (mTest (mOp inY (mOp ixD (mVar 4) (mC (.int 1))) (mVar 1)))) (mRet (mC (.bl false))) mNx))
  (mRet (mC (.bl true)))))
def M_law_free : List D → Res D := runD 7 3 m_law_free
theorem ok_law_free (c : Ctx w K mg) : FnOk P w K mg base (L2.CX P w) 1 (He.ga K "_law_free") (fd_law_free c) ["_law_seen_here", "_law_left_here", "_law_cloak"] (spD K M_law_free) := by
  have sc := sc_law_free
  refine fn_D (fn_law_free c) sc fun cdv A outer s H E hr => ?_
  have hr0 := hr
  have tk : Takes (cxOf (L2.CX P w) P w K mg base ["_law_seen_here", "_law_left_here", "_law_cloak", "_law_taking_here", "_law_tie", "_law_many", "_law_other"] "_law_free" (defScope s_law_free) (He.ga K "_law_free") cdv A outer s H E) (fun cls d _ H => E cls d H) := takes_of rfl rfl rfl rfl
  have po : PassesOwn (model P w) (A.deeper (envOfC "_law_free" (defScope s_law_free) s.heap.objs.size (He.ga K "_law_free") cdv)) (envOfC "_law_free" (defScope s_law_free) s.heap.objs.size (He.ga K "_law_free") cdv) (cxOf (L2.CX P w) P w K mg base ["_law_seen_here", "_law_left_here", "_law_cloak", "_law_taking_here", "_law_tie", "_law_many", "_law_other"] "_law_free" (defScope s_law_free) (He.ga K "_law_free") cdv A outer s H E).xe := passes_of rfl
  exact (sb_cons (ss_for po rfl (si_seq (se_ix (SE.pt (se_var 0)) (SE.pt se_int)) (tg_name 3 sc.nd)) (sb_one (ss_if (st_cmp (op_eqD (units64 hr0)) sr_eqD (SE.pt (se_ix (SE.pt (se_var 3)) (SE.pt se_int))) (SE.pt (se_var 2)) (nomark _)) (sb_cons (ss_set 5 sc.nd (se_cb late_P call_len2 src_len (fr_len c) (by decide +kernel) (sa_cons (SE.ft (se_lc (slc_if (own := [("_law_other", 6)]) (SIc.t (ic_seq (se_ix (SE.pt (se_var 3)) (SE.pt se_int)))) (fun _ _ _ _ _ => by exact (tg_name 6 sc.nd)) (fun _ _ _ _ _ => by exact (st_cmp (op_inY (units1 hr0) (units65 hr0)) sr_inY (SE.pt (se_var 6)) (SE.pt (se_var 1)) (by rfl))) (fun _ _ _ _ _ => by exact (se_var 6))) rfl sc.nd (blkOk_by (show blkC ["_law_seen_here", "_law_left_here", "_law_cloak", "_law_taking_here", "_law_tie", "_law_many", "_law_other"] (defScope s_law_free) _ _ = true by decide +kernel)))) sa_nil)))
    (sb_one (ss_if (st_cmp op_gtX sr_gtX (SE.pt (se_var 5)) (SE.pt (se_ix (SE.pt (se_ix (SE.pt (se_var 0)) (SE.pt se_int))) (SE.pt (se_meth late_P PySem.F.plainAttrs_list PySem.F.slot_list_index PySem.F.type_list_index (mt_indexD (units65 hr0)) sm_index (SE.pt (se_ix (SE.pt (se_var 0)) (SE.pt se_int))) (sa_cons (SE.pt (se_ix (SE.pt (se_var 3)) (SE.pt se_int))) sa_nil))))) (nomark _)) (sb_one (ss_ret se_bl)) sb_nil))) sb_nil)))
    (sb_cons (ss_for po rfl (si_seq (se_ix (SE.pt (se_var 0)) (SE.pt se_int)) (tg_name 4 sc.nd)) (sb_one (ss_if (SW.st (sw_and (st_cmp (op_eqD (units64 hr0)) sr_eqD (SE.pt (se_ix (SE.pt (se_var 4)) (SE.pt se_int))) (SE.pt (se_var 2)) (nomark _)) (sw_and1 (st_cmp (op_inY (units1 hr0) (units65 hr0)) sr_inY (SE.pt (se_ix (SE.pt (se_var 4)) (SE.pt se_int))) (SE.pt (se_var 1)) (by rfl))))) (sb_one (ss_ret se_bl)) sb_nil)))
    (sb_one (ss_ret se_bl))))
/-! ### _law_peeled -/
theorem sc_law_peeled : FnScope ["_law_seen_here", "_law_left_here", "_law_order_here", "_law_k", "_law_free_here", "_law_cloak"] ["_law_seen_here"] (defScope s_law_peeled) := ⟨rfl, rfl, rfl, by decide +kernel, rfl, by decide +kernel, by decide +kernel⟩
def m_law_peeled : En → SR :=
  (mSeq (mSetF 1 (mCB (f1 listL) (mCons (mOp ixD (mVar 0) (mC (.int 0))) mNil)))
  (mSeq (mSetF 2 (mLstL mNil))
  (mSeq (mFor (mRng1 (mCB (f1 lenD) (mCons (mOp ixD (mVar 0) (mC (.int 0))) mNil)) (tgName 3)) (mSeq (mSet 4 (mFz (mComp (mSeqT (mVarT 1) (tgName 5)) [5] (mTest (mCallT M_law_free [] (mCons (mVar 0) (mCons (mVarT 1) (mCons (mVar 5) mNil))))) (mVar 5))))
  (mSeq (mIfS (mTest (mOp eqD (mCB (f1 lenD) (mCons (mVar 4) mNil)) (mC (.int 0)))) (mRetF (mLstL (mCons (mC .non) (mCons (mCB (f1 tupleD) (mCons (mVarT 1) mNil)) mNil)))) mNx)
  (mSeq (mMut 1 (mCons (mOp ixD (mVar 4) (mUn negD (mC (.int 1)))) mNil) remG)
  (mMut 2 (mCons (mC (.int 0)) (mCons (mOp ixD (mVar 4) (mUn negD (mC (.int 1)))) mNil)) insG)))))
  (mRetF (mLstL (mCons (mCB (f1 tupleD) (mCons (mVarT 2) mNil)) (mCons (mTupL mNil) mNil)))))))
def M_law_peeled : List D → Res Ob := runF 6 1 m_law_peeled
theorem ok_law_peeled (c : Ctx w K mg) : FnOk P w K mg base (L2.CX P w) 2 (He.ga K "_law_peeled") (fd_law_peeled c) ["_law_seen_here"] (spF K M_law_peeled) := by
  have sc := sc_law_peeled
  refine fn_F (fn_law_peeled c) sc fun cdv A outer s H E hr => ?_
  have hr0 := hr
  have tk : Takes (cxOf (L2.CX P w) P w K mg base ["_law_seen_here", "_law_left_here", "_law_order_here", "_law_k", "_law_free_here", "_law_cloak"] "_law_peeled" (defScope s_law_peeled) (He.ga K "_law_peeled") cdv A outer s H E) (fun cls d _ H => E cls d H) := takes_of rfl rfl rfl rfl
  have po : PassesOwn (model P w) (A.deeper (envOfC "_law_peeled" (defScope s_law_peeled) s.heap.objs.size (He.ga K "_law_peeled") cdv)) (envOfC "_law_peeled" (defScope s_law_peeled) s.heap.objs.size (He.ga K "_law_peeled") cdv) (cxOf (L2.CX P w) P w K mg base ["_law_seen_here", "_law_left_here", "_law_order_here", "_law_k", "_law_free_here", "_law_cloak"] "_law_peeled" (defScope s_law_peeled) (He.ga K "_law_peeled") cdv A outer s H E).xe := passes_of rfl
  exact (sb_cons (ss_setF 1 sc.nd (se_cty late_F call_list_of src_list (fr_list c) (by decide +kernel) (sa_cons (SE.pt (se_ix (SE.pt (se_var 0)) (SE.pt se_int))) sa_nil)))
    (sb_cons (ss_setF 2 sc.nd (se_lst sp_nil))
    (sb_cons (ss_for po rfl (si_rng1 (fr_range c) (SE.pt (se_cb late_P call_len2 src_len (fr_len c) (by decide +kernel) (sa_cons (SE.pt (se_ix (SE.pt (se_var 0)) (SE.pt se_int))) sa_nil))) (tg_name 3 sc.nd)) (sb_cons (ss_setLc 4 (slc_if (own := [("_law_cloak", 5)]) (ic_seqT (se_varT 1)) (fun _ _ _ _ _ => by exact (tg_name 5 sc.nd)) (fun _ _ _ _ _ => by exact (st_val (SE.pt (se_callT (ok_law_free c) (hr0.mono (by omega)) takes0 (gl_law_free c) (kp_law_free c) (bd_law_free c) .nil (fun _ => repsNil) (sa_cons (SE.pt (se_var 0)) (sa_cons (se_varT 1) (sa_cons (SE.pt (se_var 5)) sa_nil))))))) (fun _ _ _ _ _ => by exact (se_var 5))) rfl sc.nd (blkOk_by (show blkC ["_law_seen_here", "_law_left_here", "_law_order_here", "_law_k", "_law_free_here", "_law_cloak"] (defScope s_law_peeled) _ _ = true by decide +kernel)) (sw_true rfl rfl rfl (by decide +kernel)))
    (sb_cons (ss_if (st_cmp (op_eqD (units64 hr0)) sr_eqD (SE.pt (se_cb late_P call_len2 src_len (fr_len c) (by decide +kernel) (sa_cons (SE.pt (se_var 4)) sa_nil))) (SE.pt se_int) (nomark _)) (sb_one (ss_retF (se_lst (sp_cons se_non (sp_cons (se_cty late_P call_tupleZ src_tuple (fr_tuple c) (by decide +kernel) (sa_cons (se_varT 1) sa_nil)) sp_nil))))) sb_nil)
    (sb_cons (ss_mutE 1 PySem.F.slot_list_remove PySem.F.type_list_remove (mt_removeD (units65 hr0)) mut_rem (sp_cons (se_ix (SE.pt (se_var 4)) (SE.pt (se_neg (SE.pt se_int)))) sp_nil))
    (sb_one (ss_mut 2 PySem.F.slot_list_insert PySem.F.type_list_insert mt_insert mut_ins (sp_cons se_int (sp_cons (se_ix (SE.pt (se_var 4)) (SE.pt (se_neg (SE.pt se_int)))) sp_nil))))))))
    (sb_one (ss_retF (se_lst (sp_cons (se_cty late_P call_tupleZ src_tuple (fr_tuple c) (by decide +kernel) (sa_cons (se_varT 2) sa_nil)) (sp_cons (se_tup sp_nil) sp_nil))))))))
/-! ### _law_stuck -/
theorem sc_law_stuck : FnScope ["_law_seen_here", "_law_lot", "_law_cloak", "_law_held", "_law_taking_here", "_law_tie", "_law_many", "_law_other"] ["_law_seen_here", "_law_lot"] (defScope s_law_stuck) := ⟨rfl, rfl, rfl, by decide +kernel, rfl, by decide +kernel, by decide +kernel⟩
def m_law_stuck : En → SR :=
  (mSeq (mFor (mSeqI (mVar 1) (tgName 2)) (mSeq (mSet 3 (mC (.bl false)))
  (mSeq (mFor (mSeqI (mOp ixD (mVar 0) (mC (.int 1))) (tgName 4)) (mIfS (mTest (mOp eqD (mOp ixD (mVar 4) (mC (.int 1))) (mVar 2))) (mSeq (mSet 6 (mCB (f1 lenD) (mCons (mFz (mComp (mSeqI (mOp ixD (mVar 4) (mC (.int 2))) (tgName 7)) [7] (mTest (mOp inY (mVar 7) (mVar 1))) (mVar 7))) mNil)))
  (mSet 3 (mOrV (mVar 3) (mOp gtX (mVar 6) (mOp ixD (mOp ixD (mVar 0) (mC (.int 2))) (mMeth "list" indexD (mOp ixD (mVar 0) (mC (.int 0))) (mCons (mOp ixD (mVar 4) (mC (.int 0))) mNil))))))) mNx))
  (mSeq (mFor (mSeqI (mOp ixD (mVar 0) (mC (.int 3))) (tgName 5)) (mIfS (mAnd (mTest (mOp eqD (mOp ixD (mVar 5) (mC (.int 0))) (mVar 2))) (mTest (mOp inY (mOp ixD (mVar 5) (mC (.int 1))) (mVar 1)))) (mSet 3 (mC (.bl true))) mNx))
  (mIfS (mNot (mTru (mVar 3))) (mRet (mC (.bl false))) mNx)))))
  (mRet (mOp gtX (mCB (f1 lenD) (mCons (mVar 1) mNil)) (mC (.int 0)))))
def M_law_stuck : List D → Res D := runD 8 2 m_law_stuck
theorem ok_law_stuck (c : Ctx w K mg) : FnOk P w K mg base (L2.CX P w) 1 (He.ga K "_law_stuck") (fd_law_stuck c) ["_law_seen_here", "_law_lot"] (spD K M_law_stuck) := by
  have sc := sc_law_stuck
  refine fn_D (fn_law_stuck c) sc fun cdv A outer s H E hr => ?_
  have hr0 := hr
  have tk : Takes (cxOf (L2.CX P w) P w K mg base ["_law_seen_here", "_law_lot", "_law_cloak", "_law_held", "_law_taking_here", "_law_tie", "_law_many", "_law_other"] "_law_stuck" (defScope s_law_stuck) (He.ga K "_law_stuck") cdv A outer s H E) (fun cls d _ H => E cls d H) := takes_of rfl rfl rfl rfl
  have po : PassesOwn (model P w) (A.deeper (envOfC "_law_stuck" (defScope s_law_stuck) s.heap.objs.size (He.ga K "_law_stuck") cdv)) (envOfC "_law_stuck" (defScope s_law_stuck) s.heap.objs.size (He.ga K "_law_stuck") cdv) (cxOf (L2.CX P w) P w K mg base ["_law_seen_here", "_law_lot", "_law_cloak", "_law_held", "_law_taking_here", "_law_tie", "_law_many", "_law_other"] "_law_stuck" (defScope s_law_stuck) (He.ga K "_law_stuck") cdv A outer s H E).xe := passes_of rfl
  exact (sb_cons (ss_for po rfl (si_seq (se_var 1) (tg_name 2 sc.nd)) (sb_cons (ss_set 3 sc.nd se_bl)
    (sb_cons (ss_for po rfl (si_seq (se_ix (SE.pt (se_var 0)) (SE.pt se_int)) (tg_name 4 sc.nd)) (sb_one (ss_if (st_cmp (op_eqD (units64 hr0)) sr_eqD (SE.pt (se_ix (SE.pt (se_var 4)) (SE.pt se_int))) (SE.pt (se_var 2)) (nomark _)) (sb_cons (ss_set 6 sc.nd (se_cb late_P call_len2 src_len (fr_len c) (by decide +kernel) (sa_cons (SE.ft (se_lc (slc_if (own := [("_law_other", 7)]) (SIc.t (ic_seq (se_ix (SE.pt (se_var 4)) (SE.pt se_int)))) (fun _ _ _ _ _ => by exact (tg_name 7 sc.nd)) (fun _ _ _ _ _ => by exact (st_cmp (op_inY (units1 hr0) (units65 hr0)) sr_inY (SE.pt (se_var 7)) (SE.pt (se_var 1)) (by rfl))) (fun _ _ _ _ _ => by exact (se_var 7))) rfl sc.nd (blkOk_by (show blkC ["_law_seen_here", "_law_lot", "_law_cloak", "_law_held", "_law_taking_here", "_law_tie", "_law_many", "_law_other"] (defScope s_law_stuck) _ _ = true by decide +kernel)))) sa_nil)))
    (sb_one (ss_set 3 sc.nd (se_or (SE.pt (se_var 3)) (se_one (se_cmp late_P op_gtX sr_gtX (SE.pt (se_var 6)) (SE.pt (se_ix (SE.pt (se_ix (SE.pt (se_var 0)) (SE.pt se_int))) (SE.pt (se_meth late_P PySem.F.plainAttrs_list PySem.F.slot_list_index PySem.F.type_list_index (mt_indexD (units65 hr0)) sm_index (SE.pt (se_ix (SE.pt (se_var 0)) (SE.pt se_int))) (sa_cons (SE.pt (se_ix (SE.pt (se_var 4)) (SE.pt se_int))) sa_nil))))) (nomark _))))))) sb_nil)))
    (sb_cons (ss_for po rfl (si_seq (se_ix (SE.pt (se_var 0)) (SE.pt se_int)) (tg_name 5 sc.nd)) (sb_one (ss_if (SW.st (sw_and (st_cmp (op_eqD (units64 hr0)) sr_eqD (SE.pt (se_ix (SE.pt (se_var 5)) (SE.pt se_int))) (SE.pt (se_var 2)) (nomark _)) (sw_and1 (st_cmp (op_inY (units1 hr0) (units65 hr0)) sr_inY (SE.pt (se_ix (SE.pt (se_var 5)) (SE.pt se_int))) (SE.pt (se_var 1)) (by rfl))))) (sb_one (ss_set 3 sc.nd se_bl)) sb_nil)))
    (sb_one (ss_if (st_not (st_tru (SE.pt (se_var 3)))) (sb_one (ss_ret se_bl)) sb_nil))))))
    (sb_one (ss_ret (se_cmp late_P op_gtX sr_gtX (SE.pt (se_cb late_P call_len2 src_len (fr_len c) (by decide +kernel) (sa_cons (SE.pt (se_var 1)) sa_nil))) (SE.pt se_int) (nomark _)))))
/-! ### _law_left -/
theorem sc_law_left : FnScope ["_law_seen_here", "_law_row", "_law_left_here", "_law_digit", "_law_free_here", "_law_cloak"] ["_law_seen_here", "_law_row"] (defScope s_law_left) := ⟨rfl, rfl, rfl, by decide +kernel, rfl, by decide +kernel, by decide +kernel⟩
def m_law_left : En → SR :=
  (mSeq (mSetF 2 (mCB (f1 listL) (mCons (mOp ixD (mVar 0) (mC (.int 0))) mNil)))
  (mSeq (mFor (mSeqI (mSl slX (mVar 1) mONone (mOSome (mCB (f1 lenD) (mCons (mOp ixD (mVar 0) (mC (.int 0))) mNil)))) (tgName 3)) (mSeq (mSet 4 (mFz (mComp (mSeqT (mVarT 2) (tgName 5)) [5] (mTest (mCallT M_law_free [] (mCons (mVar 0) (mCons (mVarT 2) (mCons (mVar 5) mNil))))) (mVar 5))))
  (mIfS (mTest (mOp gtX (mCB (f1 lenD) (mCons (mVar 4) mNil)) (mC (.int 0)))) (mMut 2 (mCons (mOp ixD (mVar 4) (mOp modD (mCB (f1 intD) (mCons (mVar 3) mNil)) (mCB (f1 lenD) (mCons (mVar 4) mNil)))) mNil) remG) mNx)))
  (mRet (mCB (f1 tupleD) (mCons (mVarT 2) mNil)))))
def M_law_left : List D → Res D := runD 6 2 m_law_left
theorem ok_law_left (c : Ctx w K mg) : FnOk P w K mg base (L2.CX P w) 2 (He.ga K "_law_left") (fd_law_left c) ["_law_seen_here", "_law_row"] (spD K M_law_left) := by
  have sc := sc_law_left
  refine fn_D (fn_law_left c) sc fun cdv A outer s H E hr => ?_
  have hr0 := hr
  have tk : Takes (cxOf (L2.CX P w) P w K mg base ["_law_seen_here", "_law_row", "_law_left_here", "_law_digit", "_law_free_here", "_law_cloak"] "_law_left" (defScope s_law_left) (He.ga K "_law_left") cdv A outer s H E) (fun cls d _ H => E cls d H) := takes_of rfl rfl rfl rfl
  have po : PassesOwn (model P w) (A.deeper (envOfC "_law_left" (defScope s_law_left) s.heap.objs.size (He.ga K "_law_left") cdv)) (envOfC "_law_left" (defScope s_law_left) s.heap.objs.size (He.ga K "_law_left") cdv) (cxOf (L2.CX P w) P w K mg base ["_law_seen_here", "_law_row", "_law_left_here", "_law_digit", "_law_free_here", "_law_cloak"] "_law_left" (defScope s_law_left) (He.ga K "_law_left") cdv A outer s H E).xe := passes_of rfl
  exact (sb_cons (ss_setF 2 sc.nd (se_cty late_F call_list_of src_list (fr_list c) (by decide +kernel) (sa_cons (SE.pt (se_ix (SE.pt (se_var 0)) (SE.pt se_int))) sa_nil)))
    (sb_cons (ss_for po rfl (si_seq (se_slX (SE.pt (se_var 1)) so_none (so_some (SE.pt (se_cb late_P call_len2 src_len (fr_len c) (by decide +kernel) (sa_cons (SE.pt (se_ix (SE.pt (se_var 0)) (SE.pt se_int))) sa_nil))))) (tg_name 3 sc.nd)) (sb_cons (ss_setLc 4 (slc_if (own := [("_law_cloak", 5)]) (ic_seqT (se_varT 2)) (fun _ _ _ _ _ => by exact (tg_name 5 sc.nd)) (fun _ _ _ _ _ => by exact (st_val (SE.pt (se_callT (ok_law_free c) (hr0.mono (by omega)) takes0 (gl_law_free c) (kp_law_free c) (bd_law_free c) .nil (fun _ => repsNil) (sa_cons (SE.pt (se_var 0)) (sa_cons (se_varT 2) (sa_cons (SE.pt (se_var 5)) sa_nil))))))) (fun _ _ _ _ _ => by exact (se_var 5))) rfl sc.nd (blkOk_by (show blkC ["_law_seen_here", "_law_row", "_law_left_here", "_law_digit", "_law_free_here", "_law_cloak"] (defScope s_law_left) _ _ = true by decide +kernel)) (sw_true rfl rfl rfl (by decide +kernel)))
    (sb_one (ss_if (st_cmp op_gtX sr_gtX (SE.pt (se_cb late_P call_len2 src_len (fr_len c) (by decide +kernel) (sa_cons (SE.pt (se_var 4)) sa_nil))) (SE.pt se_int) (nomark _)) (sb_one (ss_mutE 2 PySem.F.slot_list_remove PySem.F.type_list_remove (mt_removeD (units65 hr0)) mut_rem (sp_cons (se_ix (SE.pt (se_var 4)) (SE.pt (se_mod (SE.pt (se_cty late_P call_int1 src_int (fr_int c) (by decide +kernel) (sa_cons (SE.pt (se_var 3)) sa_nil))) (SE.pt (se_cb late_P call_len2 src_len (fr_len c) (by decide +kernel) (sa_cons (SE.pt (se_var 4)) sa_nil)))))) sp_nil))) sb_nil))))
    (sb_one (ss_ret (se_cty late_P call_tupleZ src_tuple (fr_tuple c) (by decide +kernel) (sa_cons (se_varT 2) sa_nil))))))
/-! ### _law_lots -/
theorem sc_law_lots : FnScope ["_law_seen_here", "_law_row", "_law_names_here", "_law_lots_here", "_law_turned", "_law_k", "_law_name", "_law_left_here", "_law_lot", "_law_bits", "_law_spot", "_law_other"] ["_law_seen_here", "_law_row"] (defScope s_law_lots) := ⟨rfl, rfl, rfl, by decide +kernel, rfl, by decide +kernel, by decide +kernel⟩
def m_law_lots : En → SR :=
  (mSeq (mSet 2 (mOp ixD (mVar 0) (mC (.int 0))))
  (mSeq (mSetF 3 (mLstL (mCons (mTupL mNil) mNil)))
  (mSeq (mIfS (mTest (mOp leX (mCB (f1 lenD) (mCons (mVar 2) mNil)) (mC (.int 6)))) (mFor (mSeqI (mVar 2) (tgName 6)) (mSetF 3 (mOp addL (mVarT 3) (mFz (mComp (mSeqT (mVarT 3) (tgName 8)) [8] (fun _ => .ok true) (mOp addD (mVar 8) (mTupL (mCons (mVar 6) mNil)))))))) (mSeq (mSet 7 (mOp ixD (mFzO (mCallF M_law_peeled [] (mCons (mVar 0) mNil))) (mC (.int 1))))
  (mSeq (mSetF 3 (mOp addL (mVarT 3) (mFz (mLstL (mCons (mVar 7) (mCons (mCB (f1 tupleD) (mCons (mVar 2) mNil)) (mCons (mTupL (mCons (mOp ixD (mVar 2) (mC (.int 0))) mNil)) (mCons (mTupL (mCons (mOp ixD (mVar 2) (mUn negD (mC (.int 1)))) mNil)) mNil))))))))
  (mSeq (mFor (mSeqI (mVar 2) (tgName 6)) (mIfS (mTest (mOp inY (mVar 6) (mVar 7))) (mMut 3 (mCons (mCB (f1 tupleD) (mCons (mFz (mComp (mSeqI (mVar 7) (tgName 11)) [11] (mTest (mOp neD (mVar 11) (mVar 6))) (mVar 11))) mNil)) mNil) appG) (mMut 3 (mCons (mOp addD (mVar 7) (mTupL (mCons (mVar 6) mNil))) mNil) appG)))
  (mFor (mRng1 (mC (.int 20)) (tgName 5)) (mSeq (mSet 9 (mSl slX (mVar 1) (mOSome (mOp mulD (mC (.int 12)) (mVar 5))) (mOSome (mOp addD (mOp mulD (mC (.int 12)) (mVar 5)) (mC (.int 12))))))
  (mMut 3 (mCons (mCB (f1 tupleD) (mCons (mFz (mComp (mRng1 (mCB (f1 lenD) (mCons (mVar 2) mNil)) (tgName 10)) [10] (mTest (mOp gtX (mOp ixD (mVar 9) (mVar 10)) (mC (.int 3)))) (mOp ixD (mVar 2) (mVar 10)))) mNil)) mNil) appG)))))))
  (mSeq (mSetF 4 (mLstL mNil))
  (mSeq (mFor (mRng1 (mCB (f1 lenD) (mCons (mVarT 3) mNil)) (tgName 5)) (mSeq (mSet 8 (mOp ixD (mVarT 3) (mVar 5)))
  (mMut 4 (mCons (mCB (f1 tupleD) (mCons (mFz (mComp (mSeqI (mFzO (mCallF M_law_order [] (mCons (mSl slX (mVar 1) (mOSome (mVar 5)) (mOSome (mOp addD (mVar 5) (mC (.int 12))))) (mCons (mCB (f1 lenD) (mCons (mVar 8) mNil)) mNil)))) (tgName 10)) [10] (fun _ => .ok true) (mOp ixD (mVar 8) (mVar 10)))) mNil)) mNil) appG)))
  (mRetOw 4))))))
def M_law_lots : List D → Res Ob := runF 12 2 m_law_lots
theorem ok_law_lots (c : Ctx w K mg) : FnOk P w K mg base (L2.CX P w) 3 (He.ga K "_law_lots") (fd_law_lots c) ["_law_seen_here", "_law_row"] (spF K M_law_lots) := by
  have sc := sc_law_lots
  refine fn_F (fn_law_lots c) sc fun cdv A outer s H E hr => ?_
  have hr0 := hr
  have tk : Takes (cxOf (L2.CX P w) P w K mg base ["_law_seen_here", "_law_row", "_law_names_here", "_law_lots_here", "_law_turned", "_law_k", "_law_name", "_law_left_here", "_law_lot", "_law_bits", "_law_spot", "_law_other"] "_law_lots" (defScope s_law_lots) (He.ga K "_law_lots") cdv A outer s H E) (fun cls d _ H => E cls d H) := takes_of rfl rfl rfl rfl
  have po : PassesOwn (model P w) (A.deeper (envOfC "_law_lots" (defScope s_law_lots) s.heap.objs.size (He.ga K "_law_lots") cdv)) (envOfC "_law_lots" (defScope s_law_lots) s.heap.objs.size (He.ga K "_law_lots") cdv) (cxOf (L2.CX P w) P w K mg base ["_law_seen_here", "_law_row", "_law_names_here", "_law_lots_here", "_law_turned", "_law_k", "_law_name", "_law_left_here", "_law_lot", "_law_bits", "_law_spot", "_law_other"] "_law_lots" (defScope s_law_lots) (He.ga K "_law_lots") cdv A outer s H E).xe := passes_of rfl
  exact (sb_cons (ss_set 2 sc.nd (se_ix (SE.pt (se_var 0)) (SE.pt se_int)))
    (sb_cons (ss_setF 3 sc.nd (se_lst (sp_cons (se_tup sp_nil) sp_nil)))
    (sb_cons (ss_if (st_cmp op_leX sr_leX (SE.pt (se_cb late_P call_len2 src_len (fr_len c) (by decide +kernel) (sa_cons (SE.pt (se_var 2)) sa_nil))) (SE.pt se_int) (nomark _)) (sb_one (ss_for po rfl (si_seq (se_var 2) (tg_name 6 sc.nd)) (sb_one (ss_setF 3 sc.nd (se_addL (se_varT 3) (SE.ft (se_lc (slc (own := [("_law_lot", 8)]) (ic_seqT (se_varT 3)) (fun _ _ _ _ _ => by exact (tg_name 8 sc.nd)) (fun _ _ _ _ _ => by exact (se_add (SE.pt (se_var 8)) (SE.pt (se_tup (sp_cons (se_var 6) sp_nil)))))) rfl sc.nd (blkOk_by (show blkC ["_law_seen_here", "_law_row", "_law_names_here", "_law_lots_here", "_law_turned", "_law_k", "_law_name", "_law_left_here", "_law_lot", "_law_bits", "_law_spot", "_law_other"] (defScope s_law_lots) _ _ = true by decide +kernel))))))))) (sb_cons (ss_set 7 sc.nd (se_ix (SE.pt (SE.fzO (se_callF (ok_law_peeled c) (hr0.mono (by omega)) tk (gl_law_peeled c) (kp_law_peeled c) (bd_law_peeled c) .nil (fun _ => repsNil) (sp_cons (se_var 0) sp_nil)))) (SE.pt se_int)))
    (sb_cons (ss_setF 3 sc.nd (se_addL (se_varT 3) (SE.ft (se_lst (sp_cons (se_var 7) (sp_cons (se_cty late_P call_tupleZ src_tuple (fr_tuple c) (by decide +kernel) (sa_cons (SE.pt (se_var 2)) sa_nil)) (sp_cons (se_tup (sp_cons (se_ix (SE.pt (se_var 2)) (SE.pt se_int)) sp_nil)) (sp_cons (se_tup (sp_cons (se_ix (SE.pt (se_var 2)) (SE.pt (se_neg (SE.pt se_int)))) sp_nil)) sp_nil))))))))
    (sb_cons (ss_for po rfl (si_seq (se_var 2) (tg_name 6 sc.nd)) (sb_one (ss_if (st_cmp (op_inY (units1 hr0) (units65 hr0)) sr_inY (SE.pt (se_var 6)) (SE.pt (se_var 7)) (by rfl)) (sb_one (ss_mut 3 PySem.F.slot_list_append PySem.F.type_list_append mt_append mut_app (sp_cons (se_cty late_P call_tupleZ src_tuple (fr_tuple c) (by decide +kernel) (sa_cons (SE.ft (se_lc (slc_if (own := [("_law_other", 11)]) (SIc.t (ic_seq (se_var 7))) (fun _ _ _ _ _ => by exact (tg_name 11 sc.nd)) (fun _ _ _ _ _ => by exact (st_cmp (op_neD (units64 hr0)) sr_neD (SE.pt (se_var 11)) (SE.pt (se_var 6)) (nomark _))) (fun _ _ _ _ _ => by exact (se_var 11))) rfl sc.nd (blkOk_by (show blkC ["_law_seen_here", "_law_row", "_law_names_here", "_law_lots_here", "_law_turned", "_law_k", "_law_name", "_law_left_here", "_law_lot", "_law_bits", "_law_spot", "_law_other"] (defScope s_law_lots) _ _ = true by decide +kernel)))) sa_nil)) sp_nil))) (sb_one (ss_mut 3 PySem.F.slot_list_append PySem.F.type_list_append mt_append mut_app (sp_cons (se_add (SE.pt (se_var 7)) (SE.pt (se_tup (sp_cons (se_var 6) sp_nil)))) sp_nil))))))
    (sb_one (ss_for po rfl (si_rng1 (fr_range c) (SE.pt se_int) (tg_name 5 sc.nd)) (sb_cons (ss_set 9 sc.nd (se_slX (SE.pt (se_var 1)) (so_some (SE.pt (se_mul (SE.pt se_int) (SE.pt (se_var 5))))) (so_some (SE.pt (se_add (SE.pt (se_mul (SE.pt se_int) (SE.pt (se_var 5)))) (SE.pt se_int))))))
    (sb_one (ss_mut 3 PySem.F.slot_list_append PySem.F.type_list_append mt_append mut_app (sp_cons (se_cty late_P call_tupleZ src_tuple (fr_tuple c) (by decide +kernel) (sa_cons (SE.ft (se_lc (slc_if (own := [("_law_spot", 10)]) (SIc.t (ic_rng1 (fr_range c) (SE.pt (se_cb late_P call_len2 src_len (fr_len c) (by decide +kernel) (sa_cons (SE.pt (se_var 2)) sa_nil))))) (fun _ _ _ _ _ => by exact (tg_name 10 sc.nd)) (fun _ _ _ _ _ => by exact (st_cmp op_gtX sr_gtX (SE.pt (se_ix (SE.pt (se_var 9)) (SE.pt (se_var 10)))) (SE.pt se_int) (nomark _))) (fun _ _ _ _ _ => by exact (se_ix (SE.pt (se_var 2)) (SE.pt (se_var 10))))) rfl sc.nd (blkOk_by (show blkC ["_law_seen_here", "_law_row", "_law_names_here", "_law_lots_here", "_law_turned", "_law_k", "_law_name", "_law_left_here", "_law_lot", "_law_bits", "_law_spot", "_law_other"] (defScope s_law_lots) _ _ = true by decide +kernel)))) sa_nil)) sp_nil))))))))))
    (sb_cons (ss_setF 4 sc.nd (se_lst sp_nil))
    (sb_cons (ss_for po rfl (si_rng1 (fr_range c) (SE.pt (se_cb late_P call_len2 src_len (fr_len c) (by decide +kernel) (sa_cons (se_varT 3) sa_nil))) (tg_name 5 sc.nd)) (sb_cons (ss_set 8 sc.nd (se_ix (se_varT 3) (SE.pt (se_var 5))))
    (sb_one (ss_mut 4 PySem.F.slot_list_append PySem.F.type_list_append mt_append mut_app (sp_cons (se_cty late_P call_tupleZ src_tuple (fr_tuple c) (by decide +kernel) (sa_cons (SE.ft (se_lc (slc (own := [("_law_spot", 10)]) (SIc.t (ic_seq (SE.fzO (se_callF (ok_law_order c) (hr0.mono (by omega)) tk (gl_law_order c) (kp_law_order c) (bd_law_order c) .nil (fun _ => repsNil) (sp_cons (se_slX (SE.pt (se_var 1)) (so_some (SE.pt (se_var 5))) (so_some (SE.pt (se_add (SE.pt (se_var 5)) (SE.pt se_int))))) (sp_cons (se_cb late_P call_len2 src_len (fr_len c) (by decide +kernel) (sa_cons (SE.pt (se_var 8)) sa_nil)) sp_nil)))))) (fun _ _ _ _ _ => by exact (tg_name 10 sc.nd)) (fun _ _ _ _ _ => by exact (se_ix (SE.pt (se_var 8)) (SE.pt (se_var 10))))) rfl sc.nd (blkOk_by (show blkC ["_law_seen_here", "_law_row", "_law_names_here", "_law_lots_here", "_law_turned", "_law_k", "_law_name", "_law_left_here", "_law_lot", "_law_bits", "_law_spot", "_law_other"] (defScope s_law_lots) _ _ = true by decide +kernel)))) sa_nil)) sp_nil)))))
    (sb_one (ss_retOw 4)))))))
/-! ### Peel.__init__ -/
theorem sc_Peel___init__ : FnScope ["self", "order", "left"] ["self", "order", "left"] (defScope s_Peel___init__) := ⟨rfl, rfl, rfl, by decide +kernel, rfl, by decide +kernel, by decide +kernel⟩
def m_Peel___init__ : En → SR :=
  (mSeq (mSetFld 0 ["Peel"] "order" (mVar 1))
  (mSetFld 0 ["Peel"] "left" (mVar 2)))
def M_Peel___init__ : List D → Res Ob := runI "Peel" 3 3 m_Peel___init__
theorem ok_Peel___init__ (c : Ctx w K mg) : FnOk P w K mg base (L2.CX P w) 1 (He.fAd K ("Peel", some "__init__")) (fd_Peel___init__ c) ["self", "order", "left"] (spI K "Peel" M_Peel___init__) := by
  have sc := sc_Peel___init__
  refine fn_I "Peel" (fn_Peel___init__ c) sc fun cdv A outer s H E hr => ?_
  have hr0 := hr
  have tk : Takes (cxOf (L2.CX P w) P w K mg base ["self", "order", "left"] "Peel.__init__" (defScope s_Peel___init__) (He.fAd K ("Peel", some "__init__")) cdv A outer s H E) (fun cls d _ H => E cls d H) := takes_of rfl rfl rfl rfl
  have po : PassesOwn (model P w) (A.deeper (envOfC "Peel.__init__" (defScope s_Peel___init__) s.heap.objs.size (He.fAd K ("Peel", some "__init__")) cdv)) (envOfC "Peel.__init__" (defScope s_Peel___init__) s.heap.objs.size (He.fAd K ("Peel", some "__init__")) cdv) (cxOf (L2.CX P w) P w K mg base ["self", "order", "left"] "Peel.__init__" (defScope s_Peel___init__) (He.fAd K ("Peel", some "__init__")) cdv A outer s H E).xe := passes_of rfl
  exact (b0_cons (s0_fld 0 (fo_order c) (se_var 1))
    (b0_one (s0_fld 0 (fo_left c) (se_var 2))))
/-! ### BadName.__init__ -/
theorem sc_BadName___init__ : FnScope ["self", "name"] ["self", "name"] (defScope s_BadName___init__) := ⟨rfl, rfl, rfl, by decide +kernel, rfl, by decide +kernel, by decide +kernel⟩
def m_BadName___init__ : En → Res D :=
  (mVar 1)
def M_BadName___init__ : List D → Res D := runX 2 2 m_BadName___init__
theorem ok_BadName___init__ (c : Ctx w K mg) : FnOk P w K mg base (L2.CX P w) 1 (He.fAd K ("BadName", some "__init__")) (fd_BadName___init__ c) ["self", "name"] (spX K "BadName" "name" M_BadName___init__) := by
  have sc := sc_BadName___init__
  refine fn_X "BadName" (fn_BadName___init__ c) sc (oexB_ok (c.tst 0 rfl)) (He.noat_ok (c.says.fact 3 rfl)) (fun cdv A outer s H E hr => ?_) (fun _ _ => rfl)
  have hr0 := hr
  have tk : Takes (cxOf (L2.CX P w) P w K mg base ["self", "name"] "BadName.__init__" (defScope s_BadName___init__) (He.fAd K ("BadName", some "__init__")) cdv A outer s H E) (fun cls d _ H => E cls d H) := takes_of rfl rfl rfl rfl
  have po : PassesOwn (model P w) (A.deeper (envOfC "BadName.__init__" (defScope s_BadName___init__) s.heap.objs.size (He.fAd K ("BadName", some "__init__")) cdv)) (envOfC "BadName.__init__" (defScope s_BadName___init__) s.heap.objs.size (He.fAd K ("BadName", some "__init__")) cdv) (cxOf (L2.CX P w) P w K mg base ["self", "name"] "BadName.__init__" (defScope s_BadName___init__) (He.fAd K ("BadName", some "__init__")) cdv A outer s H E).xe := passes_of rfl
  exact (se_var 1)
/-! ### TakenName.__init__ -/
theorem sc_TakenName___init__ : FnScope ["self", "name"] ["self", "name"] (defScope s_TakenName___init__) := ⟨rfl, rfl, rfl, by decide +kernel, rfl, by decide +kernel, by decide +kernel⟩
def m_TakenName___init__ : En → Res D :=
  (mVar 1)
def M_TakenName___init__ : List D → Res D := runX 2 2 m_TakenName___init__
theorem ok_TakenName___init__ (c : Ctx w K mg) : FnOk P w K mg base (L2.CX P w) 1 (He.fAd K ("TakenName", some "__init__")) (fd_TakenName___init__ c) ["self", "name"] (spX K "TakenName" "name" M_TakenName___init__) := by
  have sc := sc_TakenName___init__
  refine fn_X "TakenName" (fn_TakenName___init__ c) sc (oexB_ok (c.tst 1 rfl)) (He.noat_ok (c.says.fact 4 rfl)) (fun cdv A outer s H E hr => ?_) (fun _ _ => rfl)
  have hr0 := hr
  have tk : Takes (cxOf (L2.CX P w) P w K mg base ["self", "name"] "TakenName.__init__" (defScope s_TakenName___init__) (He.fAd K ("TakenName", some "__init__")) cdv A outer s H E) (fun cls d _ H => E cls d H) := takes_of rfl rfl rfl rfl
  have po : PassesOwn (model P w) (A.deeper (envOfC "TakenName.__init__" (defScope s_TakenName___init__) s.heap.objs.size (He.fAd K ("TakenName", some "__init__")) cdv)) (envOfC "TakenName.__init__" (defScope s_TakenName___init__) s.heap.objs.size (He.fAd K ("TakenName", some "__init__")) cdv) (cxOf (L2.CX P w) P w K mg base ["self", "name"] "TakenName.__init__" (defScope s_TakenName___init__) (He.fAd K ("TakenName", some "__init__")) cdv A outer s H E).xe := passes_of rfl
  exact (se_var 1)
/-! ### BadDepth.__init__ -/
theorem sc_BadDepth___init__ : FnScope ["self", "depth"] ["self", "depth"] (defScope s_BadDepth___init__) := ⟨rfl, rfl, rfl, by decide +kernel, rfl, by decide +kernel, by decide +kernel⟩
def m_BadDepth___init__ : En → Res D :=
  (mVar 1)
def M_BadDepth___init__ : List D → Res D := runX 2 2 m_BadDepth___init__
theorem ok_BadDepth___init__ (c : Ctx w K mg) : FnOk P w K mg base (L2.CX P w) 1 (He.fAd K ("BadDepth", some "__init__")) (fd_BadDepth___init__ c) ["self", "depth"] (spX K "BadDepth" "depth" M_BadDepth___init__) := by
  have sc := sc_BadDepth___init__
  refine fn_X "BadDepth" (fn_BadDepth___init__ c) sc (oexB_ok (c.tst 2 rfl)) (He.noat_ok (c.says.fact 5 rfl)) (fun cdv A outer s H E hr => ?_) (fun _ _ => rfl)
  have hr0 := hr
  have tk : Takes (cxOf (L2.CX P w) P w K mg base ["self", "depth"] "BadDepth.__init__" (defScope s_BadDepth___init__) (He.fAd K ("BadDepth", some "__init__")) cdv A outer s H E) (fun cls d _ H => E cls d H) := takes_of rfl rfl rfl rfl
  have po : PassesOwn (model P w) (A.deeper (envOfC "BadDepth.__init__" (defScope s_BadDepth___init__) s.heap.objs.size (He.fAd K ("BadDepth", some "__init__")) cdv)) (envOfC "BadDepth.__init__" (defScope s_BadDepth___init__) s.heap.objs.size (He.fAd K ("BadDepth", some "__init__")) cdv) (cxOf (L2.CX P w) P w K mg base ["self", "depth"] "BadDepth.__init__" (defScope s_BadDepth___init__) (He.fAd K ("BadDepth", some "__init__")) cdv A outer s H E).xe := passes_of rfl
  exact (se_var 1)
/-! ### BadTaking.__init__ -/
theorem sc_BadTaking___init__ : FnScope ["self", "index"] ["self", "index"] (defScope s_BadTaking___init__) := ⟨rfl, rfl, rfl, by decide +kernel, rfl, by decide +kernel, by decide +kernel⟩
def m_BadTaking___init__ : En → Res D :=
  (mVar 1)
def M_BadTaking___init__ : List D → Res D := runX 2 2 m_BadTaking___init__
theorem ok_BadTaking___init__ (c : Ctx w K mg) : FnOk P w K mg base (L2.CX P w) 1 (He.fAd K ("BadTaking", some "__init__")) (fd_BadTaking___init__ c) ["self", "index"] (spX K "BadTaking" "index" M_BadTaking___init__) := by
  have sc := sc_BadTaking___init__
  refine fn_X "BadTaking" (fn_BadTaking___init__ c) sc (oexB_ok (c.tst 3 rfl)) (He.noat_ok (c.says.fact 6 rfl)) (fun cdv A outer s H E hr => ?_) (fun _ _ => rfl)
  have hr0 := hr
  have tk : Takes (cxOf (L2.CX P w) P w K mg base ["self", "index"] "BadTaking.__init__" (defScope s_BadTaking___init__) (He.fAd K ("BadTaking", some "__init__")) cdv A outer s H E) (fun cls d _ H => E cls d H) := takes_of rfl rfl rfl rfl
  have po : PassesOwn (model P w) (A.deeper (envOfC "BadTaking.__init__" (defScope s_BadTaking___init__) s.heap.objs.size (He.fAd K ("BadTaking", some "__init__")) cdv)) (envOfC "BadTaking.__init__" (defScope s_BadTaking___init__) s.heap.objs.size (He.fAd K ("BadTaking", some "__init__")) cdv) (cxOf (L2.CX P w) P w K mg base ["self", "index"] "BadTaking.__init__" (defScope s_BadTaking___init__) (He.fAd K ("BadTaking", some "__init__")) cdv A outer s H E).xe := passes_of rfl
  exact (se_var 1)
/-! ### BadTie.__init__ -/
theorem sc_BadTie___init__ : FnScope ["self", "index"] ["self", "index"] (defScope s_BadTie___init__) := ⟨rfl, rfl, rfl, by decide +kernel, rfl, by decide +kernel, by decide +kernel⟩
def m_BadTie___init__ : En → Res D :=
  (mVar 1)
def M_BadTie___init__ : List D → Res D := runX 2 2 m_BadTie___init__
theorem ok_BadTie___init__ (c : Ctx w K mg) : FnOk P w K mg base (L2.CX P w) 1 (He.fAd K ("BadTie", some "__init__")) (fd_BadTie___init__ c) ["self", "index"] (spX K "BadTie" "index" M_BadTie___init__) := by
  have sc := sc_BadTie___init__
  refine fn_X "BadTie" (fn_BadTie___init__ c) sc (oexB_ok (c.tst 4 rfl)) (He.noat_ok (c.says.fact 7 rfl)) (fun cdv A outer s H E hr => ?_) (fun _ _ => rfl)
  have hr0 := hr
  have tk : Takes (cxOf (L2.CX P w) P w K mg base ["self", "index"] "BadTie.__init__" (defScope s_BadTie___init__) (He.fAd K ("BadTie", some "__init__")) cdv A outer s H E) (fun cls d _ H => E cls d H) := takes_of rfl rfl rfl rfl
  have po : PassesOwn (model P w) (A.deeper (envOfC "BadTie.__init__" (defScope s_BadTie___init__) s.heap.objs.size (He.fAd K ("BadTie", some "__init__")) cdv)) (envOfC "BadTie.__init__" (defScope s_BadTie___init__) s.heap.objs.size (He.fAd K ("BadTie", some "__init__")) cdv) (cxOf (L2.CX P w) P w K mg base ["self", "index"] "BadTie.__init__" (defScope s_BadTie___init__) (He.fAd K ("BadTie", some "__init__")) cdv A outer s H E).xe := passes_of rfl
  exact (se_var 1)
/-! ### Seen.is_held -/
theorem sc_Seen_is_held : FnScope ["self", "cloak", "lot", "hanging", "depth", "other"] ["self", "cloak", "lot"] (defScope s_Seen_is_held) := ⟨rfl, rfl, rfl, by decide +kernel, rfl, by decide +kernel, by decide +kernel⟩
def m_Seen_is_held : En → SR :=
  (mSeq (mFor (mSeqI (mOp dgetD (mUn (fldD ["Seen"] "_limits") (mVar 0)) (mVar 1)) (tgTup [(tgName 3), (tgName 4)])) (mIfS (mTest (mOp gtX (mCB (f1 lenD) (mCons (mFz (mComp (mSeqI (mVar 3) (tgName 5)) [5] (mTest (mOp inY (mVar 5) (mVar 2))) (mVar 5))) mNil)) (mVar 4))) (mRet (mC (.bl true))) mNx))
  (mRet (mCB (f1 anyD) (mCons (mFz (mComp (mSeqI (mOp dgetD (mUn (fldD ["Seen"] "_worse") (mVar 0)) (mVar 1)) (tgName 5)) [5] (fun _ => .ok true) (mOp inY (mVar 5) (mVar 2)))) mNil))))
def M_Seen_is_held : List D → Res D := runD 6 3 m_Seen_is_held
theorem ok_Seen_is_held (c : Ctx w K mg) : FnOk P w K mg base (L2.CX P w) 1 (He.fAd K ("Seen", some "is_held")) (fd_Seen_is_held c) ["self", "cloak", "lot"] (spD K M_Seen_is_held) := by
  have sc := sc_Seen_is_held
  refine fn_D (fn_Seen_is_held c) sc fun cdv A outer s H E hr => ?_
  have hr0 := hr
  have tk : Takes (cxOf (L2.CX P w) P w K mg base ["self", "cloak", "lot", "hanging", "depth", "other"] "Seen.is_held" (defScope s_Seen_is_held) (He.fAd K ("Seen", some "is_held")) cdv A outer s H E) (fun cls d _ H => E cls d H) := takes_of rfl rfl rfl rfl
  have po : PassesOwn (model P w) (A.deeper (envOfC "Seen.is_held" (defScope s_Seen_is_held) s.heap.objs.size (He.fAd K ("Seen", some "is_held")) cdv)) (envOfC "Seen.is_held" (defScope s_Seen_is_held) s.heap.objs.size (He.fAd K ("Seen", some "is_held")) cdv) (cxOf (L2.CX P w) P w K mg base ["self", "cloak", "lot", "hanging", "depth", "other"] "Seen.is_held" (defScope s_Seen_is_held) (He.fAd K ("Seen", some "is_held")) cdv A outer s H E).xe := passes_of rfl
  exact (sb_cons (ss_for po rfl (si_seq (se_dget (units1 hr0) (se_fld (fo__limits c) (se_var 0)) (se_var 1)) (tg_tup rfl (tgs_cons (tg_name 3 sc.nd) (tgs_cons (tg_name 4 sc.nd) tgs_nil)))) (sb_one (ss_if (st_cmp op_gtX sr_gtX (SE.pt (se_cb late_P call_len2 src_len (fr_len c) (by decide +kernel) (sa_cons (SE.ft (se_lc (slc_if (own := [("other", 5)]) (SIc.t (ic_seq (se_var 3))) (fun _ _ _ _ _ => by exact (tg_name 5 sc.nd)) (fun _ _ _ _ _ => by exact (st_cmp (op_inY (units1 hr0) (units65 hr0)) sr_inY (SE.pt (se_var 5)) (SE.pt (se_var 2)) (by rfl))) (fun _ _ _ _ _ => by exact (se_var 5))) rfl sc.nd (blkOk_by (show blkC ["self", "cloak", "lot", "hanging", "depth", "other"] (defScope s_Seen_is_held) _ _ = true by decide +kernel)))) sa_nil))) (SE.pt (se_var 4)) (nomark _)) (sb_one (ss_ret se_bl)) sb_nil)))
    (sb_one (ss_ret (se_cb late_P (cr_any rfl) src_any (fr_any c) (by decide +kernel) (sa_cons (SE.ft (se_lc (slc (own := [("other", 5)]) (SIc.t (ic_seq (se_dget (units1 hr0) (se_fld (fo__worse c) (se_var 0)) (se_var 1)))) (fun _ _ _ _ _ => by exact (tg_name 5 sc.nd)) (fun _ _ _ _ _ => by exact (se_cmp late_P (op_inY (units1 hr0) (units65 hr0)) sr_inY (SE.pt (se_var 5)) (SE.pt (se_var 2)) (by rfl)))) rfl sc.nd (blkOk_by (show blkC ["self", "cloak", "lot", "hanging", "depth", "other"] (defScope s_Seen_is_held) _ _ = true by decide +kernel)))) sa_nil)))))
/-! ### is_stuck -/
theorem sc_is_stuck : FnScope ["seen", "lot", "cloak"] ["seen", "lot"] (defScope s_is_stuck) := ⟨rfl, rfl, rfl, by decide +kernel, rfl, by decide +kernel, by decide +kernel⟩
def m_is_stuck : En → SR :=
  (mSeq (mSet 1 (mCall (M_frozen 5) [] (mCons (mVar 1) mNil)))
  (mRet (mAndV (mOp gtX (mCB (f1 lenD) (mCons (mVar 1) mNil)) (mC (.int 0))) (mCB (f1 allD) (mCons (mFz (mComp (mSeqI (mVar 1) (tgName 2)) [2] (fun _ => .ok true) (mOMeth "Seen" "is_held" M_Seen_is_held 2 0 [.p 0, .p 1, .p 2] [] [] (mVar 0) (mCons (mVar 2) (mCons (mVar 1) mNil)) mNil))) mNil)))))
def M_is_stuck : List D → Res D := runD 3 2 m_is_stuck
theorem ok_is_stuck (c : Ctx w K mg) : FnOk P w K mg base (L2.CX P w) 7 (He.ga K "is_stuck") (fd_is_stuck c) ["seen", "lot"] (spD K M_is_stuck) := by
  have sc := sc_is_stuck
  refine fn_D (fn_is_stuck c) sc fun cdv A outer s H E hr => ?_
  have hr0 := hr
  have tk : Takes (cxOf (L2.CX P w) P w K mg base ["seen", "lot", "cloak"] "is_stuck" (defScope s_is_stuck) (He.ga K "is_stuck") cdv A outer s H E) (fun cls d _ H => E cls d H) := takes_of rfl rfl rfl rfl
  have po : PassesOwn (model P w) (A.deeper (envOfC "is_stuck" (defScope s_is_stuck) s.heap.objs.size (He.ga K "is_stuck") cdv)) (envOfC "is_stuck" (defScope s_is_stuck) s.heap.objs.size (He.ga K "is_stuck") cdv) (cxOf (L2.CX P w) P w K mg base ["seen", "lot", "cloak"] "is_stuck" (defScope s_is_stuck) (He.ga K "is_stuck") cdv A outer s H E).xe := passes_of rfl
  exact (sb_cons (ss_set 1 sc.nd (se_call (ok_frozen c 5) (hr0.mono (by omega)) tk (gl_frozen c) (kp_frozen c) (bd_frozen c) .nil (fun _ => repsNil) (sp_cons (se_var 1) sp_nil)))
    (sb_one (ss_ret (se_and (SE.pt (se_cmp late_P op_gtX sr_gtX (SE.pt (se_cb late_P call_len2 src_len (fr_len c) (by decide +kernel) (sa_cons (SE.pt (se_var 1)) sa_nil))) (SE.pt se_int) (nomark _))) (se_one (se_cb late_P (cr_all rfl) src_all (fr_all c) (by decide +kernel) (sa_cons (SE.ft (se_lc (slc (own := [("cloak", 2)]) (SIc.t (ic_seq (se_var 1))) (fun _ _ _ _ _ => by exact (tg_name 2 sc.nd)) (fun _ _ _ _ _ => by exact (se_om (c := "Seen") (ks := []) (c.cl 8 rfl) (c.mt 11 rfl) (ok_Seen_is_held c) (hr0.mono (by omega)) takes0 (kb_Seen_is_held_3 c) (se_var 0) (sp_cons (se_var 2) (sp_cons (se_var 1) sp_nil)) sk_nil))) rfl sc.nd (blkOk_by (show blkC ["seen", "lot", "cloak"] (defScope s_is_stuck) _ _ = true by decide +kernel)))) sa_nil)))))))
/-! ### _next_off -/
theorem sc_next_off : FnScope ["seen", "left", "cloak"] ["seen", "left"] (defScope s_next_off) := ⟨rfl, rfl, rfl, by decide +kernel, rfl, by decide +kernel, by decide +kernel⟩
def m_next_off : En → SR :=
  (mSeq (mFor (mSeqI (mUn revT (mVar 1)) (tgName 2)) (mIfS (mNot (mTest (mOMeth "Seen" "is_held" M_Seen_is_held 2 0 [.p 0, .p 1, .p 2] [] [] (mVar 0) (mCons (mVar 2) (mCons (mVar 1) mNil)) mNil))) (mRet (mVar 2)) mNx))
  (mRet (mC .non)))
def M_next_off : List D → Res D := runD 3 2 m_next_off
theorem ok_next_off (c : Ctx w K mg) : FnOk P w K mg base (L2.CX P w) 2 (He.ga K "_next_off") (fd_next_off c) ["seen", "left"] (spD K M_next_off) := by
  have sc := sc_next_off
  refine fn_D (fn_next_off c) sc fun cdv A outer s H E hr => ?_
  have hr0 := hr
  have tk : Takes (cxOf (L2.CX P w) P w K mg base ["seen", "left", "cloak"] "_next_off" (defScope s_next_off) (He.ga K "_next_off") cdv A outer s H E) (fun cls d _ H => E cls d H) := takes_of rfl rfl rfl rfl
  have po : PassesOwn (model P w) (A.deeper (envOfC "_next_off" (defScope s_next_off) s.heap.objs.size (He.ga K "_next_off") cdv)) (envOfC "_next_off" (defScope s_next_off) s.heap.objs.size (He.ga K "_next_off") cdv) (cxOf (L2.CX P w) P w K mg base ["seen", "left", "cloak"] "_next_off" (defScope s_next_off) (He.ga K "_next_off") cdv A outer s H E).xe := passes_of rfl
  exact (sb_cons (ss_for po rfl (si_seq (se_revT (SE.pt (se_var 1))) (tg_name 2 sc.nd)) (sb_one (ss_if (st_not (st_val (SE.pt (se_om (c := "Seen") (ks := []) (c.cl 8 rfl) (c.mt 11 rfl) (ok_Seen_is_held c) (hr0.mono (by omega)) tk (kb_Seen_is_held_3 c) (se_var 0) (sp_cons (se_var 2) (sp_cons (se_var 1) sp_nil)) sk_nil)))) (sb_one (ss_ret (se_var 2))) sb_nil)))
    (sb_one (ss_ret se_non)))
/-! ### is_name -/
theorem sc_is_name : FnScope ["value", "sign"] ["value"] (defScope s_is_name) := ⟨rfl, rfl, rfl, by decide +kernel, rfl, by decide +kernel, by decide +kernel⟩
def m_is_name : En → SR :=
  (mSeq (mIfS (mOr (mNot (mTest (mChain leX leX (mC (.int 1)) (mCB (f1 lenD) (mCons (mVar 0) mNil)) (mC (.int 8))))) (mNot (mTest (mCall M_is_letter [] (mCons (mOp ixD (mVar 0) (mC (.int 0))) mNil))))) (mRet (mC (.bl false))) mNx)
  (mRet (mCB (f1 allD) (mCons (mFz (mComp (mSeqI (mVar 0) (tgName 1)) [1] (fun _ => .ok true) (mOrV (mCall M_is_letter [] (mCons (mVar 1) mNil)) (mChain leX leX (mC (.str "0")) (mVar 1) (mC (.str "9")))))) mNil))))
def M_is_name : List D → Res D := runD 2 1 m_is_name
theorem ok_is_name (c : Ctx w K mg) : FnOk P w K mg base (L2.CX P w) 2 (He.ga K "is_name") (fd_is_name c) ["value"] (spD K M_is_name) := by
  have sc := sc_is_name
  refine fn_D (fn_is_name c) sc fun cdv A outer s H E hr => ?_
  have hr0 := hr
  have tk : Takes (cxOf (L2.CX P w) P w K mg base ["value", "sign"] "is_name" (defScope s_is_name) (He.ga K "is_name") cdv A outer s H E) (fun cls d _ H => E cls d H) := takes_of rfl rfl rfl rfl
  have po : PassesOwn (model P w) (A.deeper (envOfC "is_name" (defScope s_is_name) s.heap.objs.size (He.ga K "is_name") cdv)) (envOfC "is_name" (defScope s_is_name) s.heap.objs.size (He.ga K "is_name") cdv) (cxOf (L2.CX P w) P w K mg base ["value", "sign"] "is_name" (defScope s_is_name) (He.ga K "is_name") cdv A outer s H E).xe := passes_of rfl
  exact (sb_cons (ss_if (SW.st (sw_or (st_not (st_chain op_leX op_leX sr_leX sr_leX (SE.pt se_int) (SE.pt (se_cb late_P call_len2 src_len (fr_len c) (by decide +kernel) (sa_cons (SE.pt (se_var 0)) sa_nil))) (SE.pt se_int))) (sw_or1 (st_not (st_val (SE.pt (se_call (ok_is_letter c) (hr0.mono (by omega)) tk (gl_is_letter c) (kp_is_letter c) (bd_is_letter c) .nil (fun _ => repsNil) (sp_cons (se_ix (SE.pt (se_var 0)) (SE.pt se_int)) sp_nil)))))))) (sb_one (ss_ret se_bl)) sb_nil)
    (sb_one (ss_ret (se_cb late_P (cr_all rfl) src_all (fr_all c) (by decide +kernel) (sa_cons (SE.ft (se_lc (slc (own := [("sign", 1)]) (SIc.t (ic_seq (se_var 0))) (fun _ _ _ _ _ => by exact (tg_name 1 sc.nd)) (fun _ _ _ _ _ => by exact (se_or (SE.pt (se_call (ok_is_letter c) (hr0.mono (by omega)) takes0 (gl_is_letter c) (kp_is_letter c) (bd_is_letter c) .nil (fun _ => repsNil) (sp_cons (se_var 1) sp_nil))) (se_one (se_chain op_leX op_leX sr_leX sr_leX (SE.pt se_str) (SE.pt (se_var 1)) (SE.pt se_str)))))) rfl sc.nd (blkOk_by (show blkC ["value", "sign"] (defScope s_is_name) _ _ = true by decide +kernel)))) sa_nil)))))
/-! ### own_names -/
theorem sc_own_names : FnScope ["names", "name", "place"] ["names"] (defScope s_own_names) := ⟨rfl, rfl, rfl, by decide +kernel, rfl, by decide +kernel, by decide +kernel⟩
def m_own_names : En → SR :=
  (mSeq (mSet 0 (mCall (M_frozen 5) [] (mCons (mVar 0) mNil)))
  (mSeq (mFor (mSeqI (mVar 0) (tgName 1)) (mIfS (mNot (mTest (mCall M_is_name [] (mCons (mVar 1) mNil)))) (mRaise "BadName" "name" M_BadName___init__ (mCons (mVar 1) mNil)) mNx))
  (mSeq (mFor (mEnumerateI (mVar 0) (tgTup [(tgName 2), (tgName 1)])) (mIfS (mTest (mOp inY (mVar 1) (mSl slX (mVar 0) mONone (mOSome (mVar 2))))) (mRaise "TakenName" "name" M_TakenName___init__ (mCons (mVar 1) mNil)) mNx))
  (mRet (mVar 0)))))
def M_own_names : List D → Res D := runD 3 1 m_own_names
theorem ok_own_names (c : Ctx w K mg) : FnOk P w K mg base (L2.CX P w) 7 (He.ga K "own_names") (fd_own_names c) ["names"] (spD K M_own_names) := by
  have sc := sc_own_names
  refine fn_D (fn_own_names c) sc fun cdv A outer s H E hr => ?_
  have hr0 := hr
  have tk : Takes (cxOf (L2.CX P w) P w K mg base ["names", "name", "place"] "own_names" (defScope s_own_names) (He.ga K "own_names") cdv A outer s H E) (fun cls d _ H => E cls d H) := takes_of rfl rfl rfl rfl
  have po : PassesOwn (model P w) (A.deeper (envOfC "own_names" (defScope s_own_names) s.heap.objs.size (He.ga K "own_names") cdv)) (envOfC "own_names" (defScope s_own_names) s.heap.objs.size (He.ga K "own_names") cdv) (cxOf (L2.CX P w) P w K mg base ["names", "name", "place"] "own_names" (defScope s_own_names) (He.ga K "own_names") cdv A outer s H E).xe := passes_of rfl
  exact (sb_cons (ss_set 0 sc.nd (se_call (ok_frozen c 5) (hr0.mono (by omega)) tk (gl_frozen c) (kp_frozen c) (bd_frozen c) .nil (fun _ => repsNil) (sp_cons (se_var 0) sp_nil)))
    (sb_cons (ss_for po rfl (si_seq (se_var 0) (tg_name 1 sc.nd)) (sb_one (ss_if (st_not (st_val (SE.pt (se_call (ok_is_name c) (hr0.mono (by omega)) tk (gl_is_name c) (kp_is_name c) (bd_is_name c) .nil (fun _ => repsNil) (sp_cons (se_var 1) sp_nil))))) (sb_one (ss_raise (c := "BadName") rfl tk (oexB_ok (c.tst 0 rfl)) (c.mt 12 rfl).at_ (eq_of_beq (c.mt 12 rfl).fn) (ok_BadName___init__ c) (hr0.mono (by omega)) (bd_BadName___init__ c) no_pass (c.gl 13 rfl) (sp_cons (se_var 1) sp_nil))) sb_nil)))
    (sb_cons (ss_for po rfl (si_enumerate (fr_enumerate c) (se_var 0) (tg_tup rfl (tgs_cons (tg_name 2 sc.nd) (tgs_cons (tg_name 1 sc.nd) tgs_nil)))) (sb_one (ss_if (st_cmp (op_inY (units1 hr0) (units65 hr0)) sr_inY (SE.pt (se_var 1)) (SE.pt (se_slX (SE.pt (se_var 0)) so_none (so_some (SE.pt (se_var 2))))) (by rfl)) (sb_one (ss_raise (c := "TakenName") rfl tk (oexB_ok (c.tst 1 rfl)) (c.mt 14 rfl).at_ (eq_of_beq (c.mt 14 rfl).fn) (ok_TakenName___init__ c) (hr0.mono (by omega)) (bd_TakenName___init__ c) no_pass (c.gl 15 rfl) (sp_cons (se_var 1) sp_nil))) sb_nil)))
    (sb_one (ss_ret (se_var 0))))))
/-! ### _checked_depths -/
theorem sc_checked_depths : FnScope ["depths", "depth"] ["depths"] (defScope s_checked_depths) := ⟨rfl, rfl, rfl, by decide +kernel, rfl, by decide +kernel, by decide +kernel⟩
def m_checked_depths : En → SR :=
  (mSeq (mFor (mSeqI (mVar 0) (tgName 1)) (mIfS (mTest (mOp ltX (mVar 1) (mC (.int 1)))) (mRaise "BadDepth" "depth" M_BadDepth___init__ (mCons (mVar 1) mNil)) mNx))
  (mRet (mVar 0)))
def M_checked_depths : List D → Res D := runD 2 1 m_checked_depths
theorem ok_checked_depths (c : Ctx w K mg) : FnOk P w K mg base (L2.CX P w) 3 (He.ga K "_checked_depths") (fd_checked_depths c) ["depths"] (spD K M_checked_depths) := by
  have sc := sc_checked_depths
  refine fn_D (fn_checked_depths c) sc fun cdv A outer s H E hr => ?_
  have hr0 := hr
  have tk : Takes (cxOf (L2.CX P w) P w K mg base ["depths", "depth"] "_checked_depths" (defScope s_checked_depths) (He.ga K "_checked_depths") cdv A outer s H E) (fun cls d _ H => E cls d H) := takes_of rfl rfl rfl rfl
  have po : PassesOwn (model P w) (A.deeper (envOfC "_checked_depths" (defScope s_checked_depths) s.heap.objs.size (He.ga K "_checked_depths") cdv)) (envOfC "_checked_depths" (defScope s_checked_depths) s.heap.objs.size (He.ga K "_checked_depths") cdv) (cxOf (L2.CX P w) P w K mg base ["depths", "depth"] "_checked_depths" (defScope s_checked_depths) (He.ga K "_checked_depths") cdv A outer s H E).xe := passes_of rfl
  exact (sb_cons (ss_for po rfl (si_seq (se_var 0) (tg_name 1 sc.nd)) (sb_one (ss_if (st_cmp op_ltX sr_ltX (SE.pt (se_var 1)) (SE.pt se_int) (nomark _)) (sb_one (ss_raise (c := "BadDepth") rfl tk (oexB_ok (c.tst 2 rfl)) (c.mt 16 rfl).at_ (eq_of_beq (c.mt 16 rfl).fn) (ok_BadDepth___init__ c) (hr0.mono (by omega)) (bd_BadDepth___init__ c) no_pass (c.gl 17 rfl) (sp_cons (se_var 1) sp_nil))) sb_nil)))
    (sb_one (ss_ret (se_var 0))))
/-! ### _checked_takings -/
theorem sc_checked_takings : FnScope ["guests", "takings", "index", "in_order", "guest", "cloak", "hanging", "other"] ["guests", "takings"] (defScope s_checked_takings) := ⟨rfl, rfl, rfl, by decide +kernel, rfl, by decide +kernel, by decide +kernel⟩
def m_checked_takings : En → SR :=
  (mSeq (mFor (mEnumerateI (mVar 1) (tgTup [(tgName 2), (tgTup [(tgName 4), (tgName 5), (tgName 6)])])) (mSeq (mSet 3 (mCB (f1 tupleD) (mCons (mFz (mComp (mSeqI (mVar 0) (tgName 7)) [7] (mTest (mOp inY (mVar 7) (mVar 6))) (mVar 7))) mNil)))
  (mIfS (mOr (mTest (mOp niY (mVar 4) (mVar 0))) (mOr (mTest (mOp niY (mVar 5) (mVar 6))) (mTest (mOp neD (mVar 6) (mVar 3))))) (mRaise "BadTaking" "index" M_BadTaking___init__ (mCons (mVar 2) mNil)) mNx)))
  (mRet (mVar 1)))
def M_checked_takings : List D → Res D := runD 8 2 m_checked_takings
theorem ok_checked_takings (c : Ctx w K mg) : FnOk P w K mg base (L2.CX P w) 3 (He.ga K "_checked_takings") (fd_checked_takings c) ["guests", "takings"] (spD K M_checked_takings) := by
  have sc := sc_checked_takings
  refine fn_D (fn_checked_takings c) sc fun cdv A outer s H E hr => ?_
  have hr0 := hr
  have tk : Takes (cxOf (L2.CX P w) P w K mg base ["guests", "takings", "index", "in_order", "guest", "cloak", "hanging", "other"] "_checked_takings" (defScope s_checked_takings) (He.ga K "_checked_takings") cdv A outer s H E) (fun cls d _ H => E cls d H) := takes_of rfl rfl rfl rfl
  have po : PassesOwn (model P w) (A.deeper (envOfC "_checked_takings" (defScope s_checked_takings) s.heap.objs.size (He.ga K "_checked_takings") cdv)) (envOfC "_checked_takings" (defScope s_checked_takings) s.heap.objs.size (He.ga K "_checked_takings") cdv) (cxOf (L2.CX P w) P w K mg base ["guests", "takings", "index", "in_order", "guest", "cloak", "hanging", "other"] "_checked_takings" (defScope s_checked_takings) (He.ga K "_checked_takings") cdv A outer s H E).xe := passes_of rfl
  exact (sb_cons (ss_for po rfl (si_enumerate (fr_enumerate c) (se_var 1) (tg_tup rfl (tgs_cons (tg_name 2 sc.nd) (tgs_cons (tg_tup rfl (tgs_cons (tg_name 4 sc.nd) (tgs_cons (tg_name 5 sc.nd) (tgs_cons (tg_name 6 sc.nd) tgs_nil)))) tgs_nil)))) (sb_cons (ss_set 3 sc.nd (se_cty late_P call_tupleZ src_tuple (fr_tuple c) (by decide +kernel) (sa_cons (SE.ft (se_lc (slc_if (own := [("other", 7)]) (SIc.t (ic_seq (se_var 0))) (fun _ _ _ _ _ => by exact (tg_name 7 sc.nd)) (fun _ _ _ _ _ => by exact (st_cmp (op_inY (units1 hr0) (units65 hr0)) sr_inY (SE.pt (se_var 7)) (SE.pt (se_var 6)) (by rfl))) (fun _ _ _ _ _ => by exact (se_var 7))) rfl sc.nd (blkOk_by (show blkC ["guests", "takings", "index", "in_order", "guest", "cloak", "hanging", "other"] (defScope s_checked_takings) _ _ = true by decide +kernel)))) sa_nil)))
    (sb_one (ss_if (SW.st (sw_or (st_cmp (op_niY (units1 hr0) (units65 hr0)) sr_niY (SE.pt (se_var 4)) (SE.pt (se_var 0)) (by rfl)) (sw_or (st_cmp (op_niY (units1 hr0) (units65 hr0)) sr_niY (SE.pt (se_var 5)) (SE.pt (se_var 6)) (by rfl)) (sw_or1 (st_cmp (op_neD (units64 hr0)) sr_neD (SE.pt (se_var 6)) (SE.pt (se_var 3)) (nomark _)))))) (sb_one (ss_raise (c := "BadTaking") rfl tk (oexB_ok (c.tst 3 rfl)) (c.mt 18 rfl).at_ (eq_of_beq (c.mt 18 rfl).fn) (ok_BadTaking___init__ c) (hr0.mono (by omega)) (bd_BadTaking___init__ c) no_pass (c.gl 19 rfl) (sp_cons (se_var 2) sp_nil))) sb_nil))))
    (sb_one (ss_ret (se_var 1))))
/-! ### _checked_ties -/
theorem sc_checked_ties : FnScope ["guests", "ties", "index", "tie", "cloak"] ["guests", "ties"] (defScope s_checked_ties) := ⟨rfl, rfl, rfl, by decide +kernel, rfl, by decide +kernel, by decide +kernel⟩
def m_checked_ties : En → SR :=
  (mSeq (mFor (mEnumerateI (mVar 1) (tgTup [(tgName 2), (tgName 3)])) (mIfS (mOr (mTest (mOp neD (mCB (f1 lenD) (mCons (mVar 3) mNil)) (mC (.int 2)))) (mOr (mTest (mOp eqD (mOp ixD (mVar 3) (mC (.int 0))) (mOp ixD (mVar 3) (mC (.int 1))))) (mNot (mTest (mCB (f1 allD) (mCons (mFz (mComp (mSeqI (mVar 3) (tgName 4)) [4] (fun _ => .ok true) (mOp inY (mVar 4) (mVar 0)))) mNil)))))) (mRaise "BadTie" "index" M_BadTie___init__ (mCons (mVar 2) mNil)) mNx))
  (mRet (mVar 1)))
def M_checked_ties : List D → Res D := runD 5 2 m_checked_ties
theorem ok_checked_ties (c : Ctx w K mg) : FnOk P w K mg base (L2.CX P w) 3 (He.ga K "_checked_ties") (fd_checked_ties c) ["guests", "ties"] (spD K M_checked_ties) := by
  have sc := sc_checked_ties
  refine fn_D (fn_checked_ties c) sc fun cdv A outer s H E hr => ?_
  have hr0 := hr
  have tk : Takes (cxOf (L2.CX P w) P w K mg base ["guests", "ties", "index", "tie", "cloak"] "_checked_ties" (defScope s_checked_ties) (He.ga K "_checked_ties") cdv A outer s H E) (fun cls d _ H => E cls d H) := takes_of rfl rfl rfl rfl
  have po : PassesOwn (model P w) (A.deeper (envOfC "_checked_ties" (defScope s_checked_ties) s.heap.objs.size (He.ga K "_checked_ties") cdv)) (envOfC "_checked_ties" (defScope s_checked_ties) s.heap.objs.size (He.ga K "_checked_ties") cdv) (cxOf (L2.CX P w) P w K mg base ["guests", "ties", "index", "tie", "cloak"] "_checked_ties" (defScope s_checked_ties) (He.ga K "_checked_ties") cdv A outer s H E).xe := passes_of rfl
  exact (sb_cons (ss_for po rfl (si_enumerate (fr_enumerate c) (se_var 1) (tg_tup rfl (tgs_cons (tg_name 2 sc.nd) (tgs_cons (tg_name 3 sc.nd) tgs_nil)))) (sb_one (ss_if (SW.st (sw_or (st_cmp (op_neD (units64 hr0)) sr_neD (SE.pt (se_cb late_P call_len2 src_len (fr_len c) (by decide +kernel) (sa_cons (SE.pt (se_var 3)) sa_nil))) (SE.pt se_int) (nomark _)) (sw_or (st_cmp (op_eqD (units64 hr0)) sr_eqD (SE.pt (se_ix (SE.pt (se_var 3)) (SE.pt se_int))) (SE.pt (se_ix (SE.pt (se_var 3)) (SE.pt se_int))) (nomark _)) (sw_or1 (st_not (st_val (SE.pt (se_cb late_P (cr_all rfl) src_all (fr_all c) (by decide +kernel) (sa_cons (SE.ft (se_lc (slc (own := [("cloak", 4)]) (SIc.t (ic_seq (se_var 3))) (fun _ _ _ _ _ => by exact (tg_name 4 sc.nd)) (fun _ _ _ _ _ => by exact (se_cmp late_P (op_inY (units1 hr0) (units65 hr0)) sr_inY (SE.pt (se_var 4)) (SE.pt (se_var 0)) (by rfl)))) rfl sc.nd (blkOk_by (show blkC ["guests", "ties", "index", "tie", "cloak"] (defScope s_checked_ties) _ _ = true by decide +kernel)))) sa_nil))))))))) (sb_one (ss_raise (c := "BadTie") rfl tk (oexB_ok (c.tst 4 rfl)) (c.mt 20 rfl).at_ (eq_of_beq (c.mt 20 rfl).fn) (ok_BadTie___init__ c) (hr0.mono (by omega)) (bd_BadTie___init__ c) no_pass (c.gl 21 rfl) (sp_cons (se_var 2) sp_nil))) sb_nil)))
    (sb_one (ss_ret (se_var 1))))
/-! ### _law_judged -/
theorem sc_law_judged : FnScope ["_law_made_here", "_law_seen_here", "_law_lots_here", "_law_left_here", "_law_listed", "_law_some", "_law_lot", "_law_told", "_law_answer", "_law_cloak"] ["_law_made_here", "_law_seen_here", "_law_lots_here", "_law_left_here", "_law_listed"] (defScope s_law_judged) := ⟨rfl, rfl, rfl, by decide +kernel, rfl, by decide +kernel, by decide +kernel⟩
def m_law_judged : En → SR :=
  (mSeq (mSet 5 (mC (.bl false)))
  (mSeq (mFor (mSeqI (mVar 2) (tgName 6)) (mSeq (mSet 7 (mVar 6))
  (mSeq (mIfS (mTru (mVar 4)) (mSet 7 (mFz (mCB (f1 listL) (mCons (mVar 6) mNil)))) mNx)
  (mSeq (mSet 8 (mCall M_is_stuck [] (mCons (mVar 0) (mCons (mVar 7) mNil))))
  (mSeq (mIfS (mOr (mNot (mTest (mUn (isiD ["bool"]) (mVar 8)))) (mOr (mTest (mOp neD (mVar 8) (mCall M_law_stuck [] (mCons (mVar 1) (mCons (mVar 6) mNil))))) (mTest (mOp neD (mCB (f1 tupleD) (mCons (mVar 7) mNil)) (mVar 6))))) (mRetF (mLstL (mCons (mC (.bl false)) (mCons (mC (.bl false)) mNil)))) mNx)
  (mIfS (mTru (mVar 8)) (mSeq (mSet 5 (mC (.bl true)))
  (mIfS (mTest (mOp gtX (mCB (f1 lenD) (mCons (mFz (mComp (mSeqI (mVar 6) (tgName 9)) [9] (mTest (mOp niY (mVar 9) (mVar 3))) (mVar 9))) mNil)) (mC (.int 0)))) (mRetF (mLstL (mCons (mC (.bl false)) (mCons (mC (.bl false)) mNil)))) mNx)) mNx))))))
  (mRetF (mLstL (mCons (mC (.bl true)) (mCons (mVar 5) mNil))))))
def M_law_judged : List D → Res Ob := runF 10 5 m_law_judged
theorem ok_law_judged (c : Ctx w K mg) : FnOk P w K mg base (L2.CX P w) 8 (He.ga K "_law_judged") (fd_law_judged c) ["_law_made_here", "_law_seen_here", "_law_lots_here", "_law_left_here", "_law_listed"] (spF K M_law_judged) := by
  have sc := sc_law_judged
  refine fn_F (fn_law_judged c) sc fun cdv A outer s H E hr => ?_
  have hr0 := hr
  have tk : Takes (cxOf (L2.CX P w) P w K mg base ["_law_made_here", "_law_seen_here", "_law_lots_here", "_law_left_here", "_law_listed", "_law_some", "_law_lot", "_law_told", "_law_answer", "_law_cloak"] "_law_judged" (defScope s_law_judged) (He.ga K "_law_judged") cdv A outer s H E) (fun cls d _ H => E cls d H) := takes_of rfl rfl rfl rfl
  have po : PassesOwn (model P w) (A.deeper (envOfC "_law_judged" (defScope s_law_judged) s.heap.objs.size (He.ga K "_law_judged") cdv)) (envOfC "_law_judged" (defScope s_law_judged) s.heap.objs.size (He.ga K "_law_judged") cdv) (cxOf (L2.CX P w) P w K mg base ["_law_made_here", "_law_seen_here", "_law_lots_here", "_law_left_here", "_law_listed", "_law_some", "_law_lot", "_law_told", "_law_answer", "_law_cloak"] "_law_judged" (defScope s_law_judged) (He.ga K "_law_judged") cdv A outer s H E).xe := passes_of rfl
  exact (sb_cons (ss_set 5 sc.nd se_bl)
    (sb_cons (ss_for po rfl (si_seq (se_var 2) (tg_name 6 sc.nd)) (sb_cons (ss_set 7 sc.nd (se_var 6))
    (sb_cons (ss_if (st_tru (SE.pt (se_var 4))) (sb_one (ss_set 7 sc.nd (SE.fz (se_cty late_F call_list_of src_list (fr_list c) (by decide +kernel) (sa_cons (SE.pt (se_var 6)) sa_nil))))) sb_nil)
    (sb_cons (ss_set 8 sc.nd (se_call (ok_is_stuck c) (hr0.mono (by omega)) tk (gl_is_stuck c) (kp_is_stuck c) (bd_is_stuck c) .nil (fun _ => repsNil) (sp_cons (se_var 0) (sp_cons (se_var 7) sp_nil))))
    (sb_cons (ss_if (SW.st (sw_or (st_not (st_val (SE.pt (se_isi "bool" (fr_isinstance c) (fr_bool c) (SE.pt (se_var 8)))))) (sw_or (st_cmp (op_neD (units64 hr0)) sr_neD (SE.pt (se_var 8)) (SE.pt (se_call (ok_law_stuck c) (hr0.mono (by omega)) tk (gl_law_stuck c) (kp_law_stuck c) (bd_law_stuck c) .nil (fun _ => repsNil) (sp_cons (se_var 1) (sp_cons (se_var 6) sp_nil)))) (nomark _)) (sw_or1 (st_cmp (op_neD (units64 hr0)) sr_neD (SE.pt (se_cty late_P call_tupleZ src_tuple (fr_tuple c) (by decide +kernel) (sa_cons (SE.pt (se_var 7)) sa_nil))) (SE.pt (se_var 6)) (nomark _)))))) (sb_one (ss_retF (se_lst (sp_cons se_bl (sp_cons se_bl sp_nil))))) sb_nil)
    (sb_one (ss_if (st_tru (SE.pt (se_var 8))) (sb_cons (ss_set 5 sc.nd se_bl)
    (sb_one (ss_if (st_cmp op_gtX sr_gtX (SE.pt (se_cb late_P call_len2 src_len (fr_len c) (by decide +kernel) (sa_cons (SE.ft (se_lc (slc_if (own := [("_law_cloak", 9)]) (SIc.t (ic_seq (se_var 6))) (fun _ _ _ _ _ => by exact (tg_name 9 sc.nd)) (fun _ _ _ _ _ => by exact (st_cmp (op_niY (units1 hr0) (units65 hr0)) sr_niY (SE.pt (se_var 9)) (SE.pt (se_var 3)) (by rfl))) (fun _ _ _ _ _ => by exact (se_var 9))) rfl sc.nd (blkOk_by (show blkC ["_law_made_here", "_law_seen_here", "_law_lots_here", "_law_left_here", "_law_listed", "_law_some", "_law_lot", "_law_told", "_law_answer", "_law_cloak"] (defScope s_law_judged) _ _ = true by decide +kernel)))) sa_nil))) (SE.pt se_int) (nomark _)) (sb_one (ss_retF (se_lst (sp_cons se_bl (sp_cons se_bl sp_nil))))) sb_nil))) sb_nil)))))))
    (sb_one (ss_retF (se_lst (sp_cons se_bl (sp_cons (se_var 5) sp_nil)))))))
/-! ### _law_right -/
theorem sc_law_right : FnScope ["_law_made_here", "_law_seen_here", "_law_result", "_law_due", "_law_answer", "_law_order_here"] ["_law_made_here", "_law_seen_here", "_law_result"] (defScope s_law_right) := ⟨rfl, rfl, rfl, by decide +kernel, rfl, by decide +kernel, by decide +kernel⟩
def m_law_right : En → SR :=
  (mSeq (mSet 3 (mFzO (mCallF M_law_peeled [] (mCons (mVar 1) mNil))))
  (mSeq (mIfS (mOr (mNot (mTest (mCall (M_law_same 5) [] (mCons (mUn (fldD ["Peel"] "order") (mVar 2)) (mCons (mOp ixD (mVar 3) (mC (.int 0))) mNil))))) (mNot (mTest (mCall (M_law_same 5) [] (mCons (mUn (fldD ["Peel"] "left") (mVar 2)) (mCons (mOp ixD (mVar 3) (mC (.int 1))) mNil)))))) (mRet (mC (.bl false))) mNx)
  (mSeq (mSet 4 (mCall M_is_stuck [] (mCons (mVar 0) (mCons (mUn (fldD ["Peel"] "left") (mVar 2)) mNil))))
  (mSeq (mIfS (mOr (mNot (mTest (mUn (isiD ["bool"]) (mVar 4)))) (mTest (mOp neD (mVar 4) (mOp isN (mUn (fldD ["Peel"] "order") (mVar 2)) (mC .non))))) (mRet (mC (.bl false))) mNx)
  (mSeq (mIfS (mTest (mOp notN (mUn (fldD ["Peel"] "order") (mVar 2)) (mC .non))) (mRet (mAndV (mOp eqD (mCB (f1 lenD) (mCons (mUn (fldD ["Peel"] "left") (mVar 2)) mNil)) (mC (.int 0))) (mCall M_law_fits [] (mCons (mVar 1) (mCons (mUn (fldD ["Peel"] "order") (mVar 2)) mNil))))) mNx)
  (mSeq (mIfS (mNot (mTest (mCall M_law_stuck [] (mCons (mVar 1) (mCons (mUn (fldD ["Peel"] "left") (mVar 2)) mNil))))) (mRet (mC (.bl false))) mNx)
  (mSeq (mIfS (mTest (mOp gtX (mCB (f1 lenD) (mCons (mOp ixD (mVar 1) (mC (.int 0))) mNil)) (mC (.int 6)))) (mRet (mC (.bl true))) mNx)
  (mRet (mOp eqD (mCB (f1 lenD) (mCons (mFz (mComp (mSeqI (mCall M_law_orders [] (mCons (mOp ixD (mVar 1) (mC (.int 0))) mNil)) (tgName 5)) [5] (mTest (mCall M_law_fits [] (mCons (mVar 1) (mCons (mVar 5) mNil)))) (mVar 5))) mNil)) (mC (.int 0)))))))))))
def M_law_right : List D → Res D := runD 6 3 m_law_right
theorem ok_law_right (c : Ctx w K mg) : FnOk P w K mg base (L2.CX P w) 8 (He.ga K "_law_right") (fd_law_right c) ["_law_made_here", "_law_seen_here", "_law_result"] (spD K M_law_right) := by
  have sc := sc_law_right
  refine fn_D (fn_law_right c) sc fun cdv A outer s H E hr => ?_
  have hr0 := hr
  have tk : Takes (cxOf (L2.CX P w) P w K mg base ["_law_made_here", "_law_seen_here", "_law_result", "_law_due", "_law_answer", "_law_order_here"] "_law_right" (defScope s_law_right) (He.ga K "_law_right") cdv A outer s H E) (fun cls d _ H => E cls d H) := takes_of rfl rfl rfl rfl
  have po : PassesOwn (model P w) (A.deeper (envOfC "_law_right" (defScope s_law_right) s.heap.objs.size (He.ga K "_law_right") cdv)) (envOfC "_law_right" (defScope s_law_right) s.heap.objs.size (He.ga K "_law_right") cdv) (cxOf (L2.CX P w) P w K mg base ["_law_made_here", "_law_seen_here", "_law_result", "_law_due", "_law_answer", "_law_order_here"] "_law_right" (defScope s_law_right) (He.ga K "_law_right") cdv A outer s H E).xe := passes_of rfl
  exact (sb_cons (ss_set 3 sc.nd (SE.fzO (se_callF (ok_law_peeled c) (hr0.mono (by omega)) tk (gl_law_peeled c) (kp_law_peeled c) (bd_law_peeled c) .nil (fun _ => repsNil) (sp_cons (se_var 1) sp_nil))))
    (sb_cons (ss_if (SW.st (sw_or (st_not (st_val (SE.pt (se_call (ok_law_same c 5) (hr0.mono (by omega)) tk (gl_law_same c) (kp_law_same c) (bd_law_same c) .nil (fun _ => repsNil) (sp_cons (se_fld (fo_order c) (se_var 2)) (sp_cons (se_ix (SE.pt (se_var 3)) (SE.pt se_int)) sp_nil)))))) (sw_or1 (st_not (st_val (SE.pt (se_call (ok_law_same c 5) (hr0.mono (by omega)) tk (gl_law_same c) (kp_law_same c) (bd_law_same c) .nil (fun _ => repsNil) (sp_cons (se_fld (fo_left c) (se_var 2)) (sp_cons (se_ix (SE.pt (se_var 3)) (SE.pt se_int)) sp_nil))))))))) (sb_one (ss_ret se_bl)) sb_nil)
    (sb_cons (ss_set 4 sc.nd (se_call (ok_is_stuck c) (hr0.mono (by omega)) tk (gl_is_stuck c) (kp_is_stuck c) (bd_is_stuck c) .nil (fun _ => repsNil) (sp_cons (se_var 0) (sp_cons (se_fld (fo_left c) (se_var 2)) sp_nil))))
    (sb_cons (ss_if (SW.st (sw_or (st_not (st_val (SE.pt (se_isi "bool" (fr_isinstance c) (fr_bool c) (SE.pt (se_var 4)))))) (sw_or1 (st_cmp (op_neD (units64 hr0)) sr_neD (SE.pt (se_var 4)) (SE.pt (se_cmp late_P op_isN sr_isN (SE.pt (se_fld (fo_order c) (se_var 2))) (SE.pt se_non) (nomark _))) (nomark _))))) (sb_one (ss_ret se_bl)) sb_nil)
    (sb_cons (ss_if (st_cmp op_notN sr_notN (SE.pt (se_fld (fo_order c) (se_var 2))) (SE.pt se_non) (nomark _)) (sb_one (ss_ret (se_and (SE.pt (se_cmp late_P (op_eqD (units64 hr0)) sr_eqD (SE.pt (se_cb late_P call_len2 src_len (fr_len c) (by decide +kernel) (sa_cons (SE.pt (se_fld (fo_left c) (se_var 2))) sa_nil))) (SE.pt se_int) (nomark _))) (se_one (se_call (ok_law_fits c) (hr0.mono (by omega)) tk (gl_law_fits c) (kp_law_fits c) (bd_law_fits c) .nil (fun _ => repsNil) (sp_cons (se_var 1) (sp_cons (se_fld (fo_order c) (se_var 2)) sp_nil))))))) sb_nil)
    (sb_cons (ss_if (st_not (st_val (SE.pt (se_call (ok_law_stuck c) (hr0.mono (by omega)) tk (gl_law_stuck c) (kp_law_stuck c) (bd_law_stuck c) .nil (fun _ => repsNil) (sp_cons (se_var 1) (sp_cons (se_fld (fo_left c) (se_var 2)) sp_nil)))))) (sb_one (ss_ret se_bl)) sb_nil)
    (sb_cons (ss_if (st_cmp op_gtX sr_gtX (SE.pt (se_cb late_P call_len2 src_len (fr_len c) (by decide +kernel) (sa_cons (SE.pt (se_ix (SE.pt (se_var 1)) (SE.pt se_int))) sa_nil))) (SE.pt se_int) (nomark _)) (sb_one (ss_ret se_bl)) sb_nil)
    (sb_one (ss_ret (se_cmp late_P (op_eqD (units64 hr0)) sr_eqD (SE.pt (se_cb late_P call_len2 src_len (fr_len c) (by decide +kernel) (sa_cons (SE.ft (se_lc (slc_if (own := [("_law_order_here", 5)]) (SIc.t (ic_seq (se_call (ok_law_orders c) (hr0.mono (by omega)) tk (gl_law_orders c) (kp_law_orders c) (bd_law_orders c) .nil (fun _ => repsNil) (sp_cons (se_ix (SE.pt (se_var 1)) (SE.pt se_int)) sp_nil)))) (fun _ _ _ _ _ => by exact (tg_name 5 sc.nd)) (fun _ _ _ _ _ => by exact (st_val (SE.pt (se_call (ok_law_fits c) (hr0.mono (by omega)) takes0 (gl_law_fits c) (kp_law_fits c) (bd_law_fits c) .nil (fun _ => repsNil) (sp_cons (se_var 1) (sp_cons (se_var 5) sp_nil)))))) (fun _ _ _ _ _ => by exact (se_var 5))) rfl sc.nd (blkOk_by (show blkC ["_law_made_here", "_law_seen_here", "_law_result", "_law_due", "_law_answer", "_law_order_here"] (defScope s_law_right) _ _ = true by decide +kernel)))) sa_nil))) (SE.pt se_int) (nomark _)))))))))))
/-! ### Seen.__init__ -/
theorem sc_Seen___init__ : FnScope ["self", "guests", "takings", "depths", "ties", "cloak", "better", "worse"] ["self", "guests", "takings", "depths", "ties"] (defScope s_Seen___init__) := ⟨rfl, rfl, rfl, by decide +kernel, rfl, by decide +kernel, by decide +kernel⟩
def m_Seen___init__ : En → SR :=
  (mSeq (mSetFld 0 ["Seen"] "guests" (mCall M_own_names [] (mCons (mVar 1) mNil)))
  (mSeq (mSetFld 0 ["Seen"] "depths" (mCall M_checked_depths [] (mCons (mCall (M_frozen 5) [] (mCons (mVar 3) mNil)) mNil)))
  (mSeq (mSetFld 0 ["Seen"] "takings" (mCall M_checked_takings [] (mCons (mFldOw 0 ["Seen"] "guests") (mCons (mCall (M_frozen 5) [] (mCons (mVar 2) mNil)) mNil))))
  (mSeq (mSetFld 0 ["Seen"] "ties" (mCall M_checked_ties [] (mCons (mFldOw 0 ["Seen"] "guests") (mCons (mCall (M_frozen 5) [] (mCons (mVar 4) mNil)) mNil))))
  (mSeq (mSetFld 0 ["Seen"] "_limits" (mCall M_limits [] (mCons (mFldOw 0 ["Seen"] "guests") (mCons (mFldOw 0 ["Seen"] "takings") (mCons (mFldOw 0 ["Seen"] "depths") mNil)))))
  (mSetFld 0 ["Seen"] "_worse" (mFzO (mDComp (mSeqI (mFldOw 0 ["Seen"] "guests") (tgName 5)) [5] (fun _ => .ok true) (mVar 5) (mFz (mComp (mSeqI (mFldOw 0 ["Seen"] "ties") (tgTup [(tgName 6), (tgName 7)])) [6, 7] (mTest (mOp eqD (mVar 6) (mVar 5))) (mVar 7)))))))))))
def M_Seen___init__ : List D → Res Ob := runI "Seen" 8 5 m_Seen___init__
theorem ok_Seen___init__ (c : Ctx w K mg) : FnOk P w K mg base (L2.CX P w) 8 (He.fAd K ("Seen", some "__init__")) (fd_Seen___init__ c) ["self", "guests", "takings", "depths", "ties"] (spI K "Seen" M_Seen___init__) := by
  have sc := sc_Seen___init__
  refine fn_I "Seen" (fn_Seen___init__ c) sc fun cdv A outer s H E hr => ?_
  have hr0 := hr
  have tk : Takes (cxOf (L2.CX P w) P w K mg base ["self", "guests", "takings", "depths", "ties", "cloak", "better", "worse"] "Seen.__init__" (defScope s_Seen___init__) (He.fAd K ("Seen", some "__init__")) cdv A outer s H E) (fun cls d _ H => E cls d H) := takes_of rfl rfl rfl rfl
  have po : PassesOwn (model P w) (A.deeper (envOfC "Seen.__init__" (defScope s_Seen___init__) s.heap.objs.size (He.fAd K ("Seen", some "__init__")) cdv)) (envOfC "Seen.__init__" (defScope s_Seen___init__) s.heap.objs.size (He.fAd K ("Seen", some "__init__")) cdv) (cxOf (L2.CX P w) P w K mg base ["self", "guests", "takings", "depths", "ties", "cloak", "better", "worse"] "Seen.__init__" (defScope s_Seen___init__) (He.fAd K ("Seen", some "__init__")) cdv A outer s H E).xe := passes_of rfl
  exact (b0_cons (s0_fld 0 (fo_guests c) (se_call (ok_own_names c) (hr0.mono (by omega)) tk (gl_own_names c) (kp_own_names c) (bd_own_names c) .nil (fun _ => repsNil) (sp_cons (se_var 1) sp_nil)))
    (b0_cons (s0_fld 0 (fo_depths c) (se_call (ok_checked_depths c) (hr0.mono (by omega)) tk (gl_checked_depths c) (kp_checked_depths c) (bd_checked_depths c) .nil (fun _ => repsNil) (sp_cons (se_call (ok_frozen c 5) (hr0.mono (by omega)) tk (gl_frozen c) (kp_frozen c) (bd_frozen c) .nil (fun _ => repsNil) (sp_cons (se_var 3) sp_nil)) sp_nil)))
    (b0_cons (s0_fld 0 (fo_takings c) (se_call (ok_checked_takings c) (hr0.mono (by omega)) tk (gl_checked_takings c) (kp_checked_takings c) (bd_checked_takings c) .nil (fun _ => repsNil) (sp_cons (se_fldOw (f := "guests") 0 (fo_guests c)) (sp_cons (se_call (ok_frozen c 5) (hr0.mono (by omega)) tk (gl_frozen c) (kp_frozen c) (bd_frozen c) .nil (fun _ => repsNil) (sp_cons (se_var 2) sp_nil)) sp_nil))))
    (b0_cons (s0_fld 0 (fo_ties c) (se_call (ok_checked_ties c) (hr0.mono (by omega)) tk (gl_checked_ties c) (kp_checked_ties c) (bd_checked_ties c) .nil (fun _ => repsNil) (sp_cons (se_fldOw (f := "guests") 0 (fo_guests c)) (sp_cons (se_call (ok_frozen c 5) (hr0.mono (by omega)) tk (gl_frozen c) (kp_frozen c) (bd_frozen c) .nil (fun _ => repsNil) (sp_cons (se_var 4) sp_nil)) sp_nil))))
    (b0_cons (s0_fld 0 (fo__limits c) (se_call (ok_limits c) (hr0.mono (by omega)) tk (gl_limits c) (kp_limits c) (bd_limits c) .nil (fun _ => repsNil) (sp_cons (se_fldOw (f := "guests") 0 (fo_guests c)) (sp_cons (se_fldOw (f := "takings") 0 (fo_takings c)) (sp_cons (se_fldOw (f := "depths") 0 (fo_depths c)) sp_nil)))))
    (b0_one (s0_fld 0 (fo__worse c) (SE.fzO (se_dc (sdc (own := [("cloak", 5)]) (SIc.t (ic_seq (se_fldOw (f := "guests") 0 (fo_guests c)))) (fun _ _ _ _ _ => by exact (tg_name 5 sc.nd)) (fun _ _ _ _ _ => by exact (se_var 5)) (fun _ _ _ _ _ => by exact (SE.fz (se_lc (slc_if (own := [("better", 6), ("worse", 7)]) (SIc.t (ic_seq (se_fldOw (f := "ties") 0 (fo_ties c)))) (fun _ _ _ _ _ => by exact (tg_tup rfl (tgs_cons (tg_name 6 sc.nd) (tgs_cons (tg_name 7 sc.nd) tgs_nil)))) (fun _ _ _ _ _ => by exact (st_cmp (op_eqD (units64 hr0)) sr_eqD (SE.pt (se_var 6)) (SE.pt (se_var 5)) (nomark _))) (fun _ _ _ _ _ => by exact (se_var 7))) rfl sc.nd (blkOk_by (by rfl)))))) rfl sc.nd (blkOk_by (show blkC ["self", "guests", "takings", "depths", "ties", "cloak", "better", "worse"] (defScope s_Seen___init__) _ _ = true by decide +kernel)))))))))))
/-! ### Seen.tied -/
theorem sc_Seen_tied : FnScope ["self", "better", "worse"] ["self", "better", "worse"] (defScope s_Seen_tied) := ⟨rfl, rfl, rfl, by decide +kernel, rfl, by decide +kernel, by decide +kernel⟩
def m_Seen_tied : En → SR :=
  (mRetO (mMake M_Seen___init__ 4 0 [.p 0, .p 1, .p 2, .p 3] [.tup []] [] (mCons (mUn (fldD ["Seen"] "guests") (mVar 0)) (mCons (mUn (fldD ["Seen"] "takings") (mVar 0)) (mCons (mUn (fldD ["Seen"] "depths") (mVar 0)) (mCons (mOp addD (mUn (fldD ["Seen"] "ties") (mVar 0)) (mTupL (mCons (mTupL (mCons (mVar 1) (mCons (mVar 2) mNil))) mNil))) mNil)))) mNil))
def M_Seen_tied : List D → Res Ob := runF 3 3 m_Seen_tied
theorem ok_Seen_tied (c : Ctx w K mg) : FnOk P w K mg base (L2.CX P w) 10 (He.fAd K ("Seen", some "tied")) (fd_Seen_tied c) ["self", "better", "worse"] (spF K M_Seen_tied) := by
  have sc := sc_Seen_tied
  refine fn_F (fn_Seen_tied c) sc fun cdv A outer s H E hr => ?_
  have hr0 := hr
  have tk : Takes (cxOf (L2.CX P w) P w K mg base ["self", "better", "worse"] "Seen.tied" (defScope s_Seen_tied) (He.fAd K ("Seen", some "tied")) cdv A outer s H E) (fun cls d _ H => E cls d H) := takes_of rfl rfl rfl rfl
  have po : PassesOwn (model P w) (A.deeper (envOfC "Seen.tied" (defScope s_Seen_tied) s.heap.objs.size (He.fAd K ("Seen", some "tied")) cdv)) (envOfC "Seen.tied" (defScope s_Seen_tied) s.heap.objs.size (He.fAd K ("Seen", some "tied")) cdv) (cxOf (L2.CX P w) P w K mg base ["self", "better", "worse"] "Seen.tied" (defScope s_Seen_tied) (He.fAd K ("Seen", some "tied")) cdv A outer s H E).xe := passes_of rfl
  exact (sb_one (ss_retO (se_make (c := "Seen") (sp := [.p 0, .p 1, .p 2, .p 3]) (c.mkr 26 rfl) (ok_Seen___init__ c) (hr0.mono (by omega)) tk (c.gl 27 rfl) (kb_Seen___init___5 c) (sp_cons (se_fld (fo_guests c) (se_var 0)) (sp_cons (se_fld (fo_takings c) (se_var 0)) (sp_cons (se_fld (fo_depths c) (se_var 0)) (sp_cons (se_add (SE.pt (se_fld (fo_ties c) (se_var 0))) (SE.pt (se_tup (sp_cons (se_tup (sp_cons (se_var 1) (sp_cons (se_var 2) sp_nil))) sp_nil)))) sp_nil)))) sk_nil)))
/-! ### peel -/
theorem sc_peel : FnScope ["seen", "left", "order", "cloak", "other"] ["seen"] (defScope s_peel) := ⟨rfl, rfl, rfl, by decide +kernel, rfl, by decide +kernel, by decide +kernel⟩
def m_peel : En → SR :=
  (mSeq (mSet 1 (mUn (fldD ["Seen"] "guests") (mVar 0)))
  (mSeq (mSet 2 (mTupL mNil))
  (mSeq (mSet 3 (mCall M_next_off [] (mCons (mVar 0) (mCons (mVar 1) mNil))))
  (mSeq (whileM (mTest (mOp notN (mVar 3) (mC .non))) (mSeq (mSet 1 (mCB (f1 tupleD) (mCons (mFz (mComp (mSeqI (mVar 1) (tgName 4)) [4] (mTest (mOp neD (mVar 4) (mVar 3))) (mVar 4))) mNil)))
  (mSeq (mSet 2 (mOp addD (mTupL (mCons (mVar 3) mNil)) (mVar 2)))
  (mSet 3 (mCall M_next_off [] (mCons (mVar 0) (mCons (mVar 1) mNil)))))) 40)
  (mRet (mIf (mTru (mVar 1)) (mFzO (mMake M_Peel___init__ 2 0 [.p 0, .p 1] [] [] (mCons (mC .non) (mCons (mVar 1) mNil)) mNil)) (mFzO (mMake M_Peel___init__ 2 0 [.p 0, .p 1] [] [] (mCons (mVar 2) (mCons (mTupL mNil) mNil)) mNil))))))))
def M_peel : List D → Res D := runD 5 1 m_peel
theorem ok_peel (c : Ctx w K mg) : FnOk P w K mg base (L2.CX P w) 3 (He.ga K "peel") (fd_peel c) ["seen"] (spD K M_peel) := by
  have sc := sc_peel
  refine fn_D (fn_peel c) sc fun cdv A outer s H E hr => ?_
  have hr0 := hr
  have tk : Takes (cxOf (L2.CX P w) P w K mg base ["seen", "left", "order", "cloak", "other"] "peel" (defScope s_peel) (He.ga K "peel") cdv A outer s H E) (fun cls d _ H => E cls d H) := takes_of rfl rfl rfl rfl
  have po : PassesOwn (model P w) (A.deeper (envOfC "peel" (defScope s_peel) s.heap.objs.size (He.ga K "peel") cdv)) (envOfC "peel" (defScope s_peel) s.heap.objs.size (He.ga K "peel") cdv) (cxOf (L2.CX P w) P w K mg base ["seen", "left", "order", "cloak", "other"] "peel" (defScope s_peel) (He.ga K "peel") cdv A outer s H E).xe := passes_of rfl
  exact (sb_cons (ss_set 1 sc.nd (se_fld (fo_guests c) (se_var 0)))
    (sb_cons (ss_set 2 sc.nd (se_tup sp_nil))
    (sb_cons (ss_set 3 sc.nd (se_call (ok_next_off c) (hr0.mono (by omega)) tk (gl_next_off c) (kp_next_off c) (bd_next_off c) .nil (fun _ => repsNil) (sp_cons (se_var 0) (sp_cons (se_var 1) sp_nil))))
    (sb_cons (ss_while 40 po (st_cmp op_notN sr_notN (SE.pt (se_var 3)) (SE.pt se_non) (nomark _)) (sb_cons (ss_set 1 sc.nd (se_cty late_P call_tupleZ src_tuple (fr_tuple c) (by decide +kernel) (sa_cons (SE.ft (se_lc (slc_if (own := [("other", 4)]) (SIc.t (ic_seq (se_var 1))) (fun _ _ _ _ _ => by exact (tg_name 4 sc.nd)) (fun _ _ _ _ _ => by exact (st_cmp (op_neD (units64 hr0)) sr_neD (SE.pt (se_var 4)) (SE.pt (se_var 3)) (nomark _))) (fun _ _ _ _ _ => by exact (se_var 4))) rfl sc.nd (blkOk_by (show blkC ["seen", "left", "order", "cloak", "other"] (defScope s_peel) _ _ = true by decide +kernel)))) sa_nil)))
    (sb_cons (ss_set 2 sc.nd (se_add (SE.pt (se_tup (sp_cons (se_var 3) sp_nil))) (SE.pt (se_var 2))))
    (sb_one (ss_set 3 sc.nd (se_call (ok_next_off c) (hr0.mono (by omega)) tk (gl_next_off c) (kp_next_off c) (bd_next_off c) .nil (fun _ => repsNil) (sp_cons (se_var 0) (sp_cons (se_var 1) sp_nil))))))))
    (sb_one (ss_ret (se_ifexp late_P (st_tru (SE.pt (se_var 1))) (SE.fzO (se_make (c := "Peel") (sp := [.p 0, .p 1]) (c.mkr 28 rfl) (ok_Peel___init__ c) (hr0.mono (by omega)) tk (c.gl 29 rfl) (kb_Peel___init___3 c) (sp_cons se_non (sp_cons (se_var 1) sp_nil)) sk_nil)) (SE.fzO (se_make (c := "Peel") (sp := [.p 0, .p 1]) (c.mkr 28 rfl) (ok_Peel___init__ c) (hr0.mono (by omega)) tk (c.gl 29 rfl) (kb_Peel___init___3 c) (sp_cons (se_var 2) (sp_cons (se_tup sp_nil) sp_nil)) sk_nil)))))))))
/-! ### _law_made -/
theorem sc_law_made : FnScope ["_law_seen_here", "_law_kind", "_law_rows", "_law_taking_here", "_law_tie"] ["_law_seen_here", "_law_kind"] (defScope s_law_made) := ⟨rfl, rfl, rfl, by decide +kernel, rfl, by decide +kernel, by decide +kernel⟩
def m_law_made : En → SR :=
  (mSeq (mIfS (mTest (mOp eqD (mVar 1) (mC (.int 0)))) (mRetO (mMake M_Seen___init__ 4 0 [.p 0, .p 1, .p 2, .p 3] [.tup []] [] (mCons (mCB (f1 tupleD) (mCons (mOp ixD (mVar 0) (mC (.int 0))) mNil)) (mCons (mCB (f1 tupleD) (mCons (mOp ixD (mVar 0) (mC (.int 1))) mNil)) (mCons (mCB (f1 tupleD) (mCons (mOp ixD (mVar 0) (mC (.int 2))) mNil)) (mCons (mCB (f1 tupleD) (mCons (mOp ixD (mVar 0) (mC (.int 3))) mNil)) mNil)))) mNil)) mNx)
  (mSeq (mIfS (mTest (mOp eqD (mVar 1) (mC (.int 1)))) (mSeq (mSet 2 (mFz (mComp (mSeqI (mOp ixD (mVar 0) (mC (.int 1))) (tgName 3)) [3] (fun _ => .ok true) (mFz (mLstL (mCons (mOp ixD (mVar 3) (mC (.int 0))) (mCons (mOp ixD (mVar 3) (mC (.int 1))) (mCons (mFz (mCB (f1 listL) (mCons (mOp ixD (mVar 3) (mC (.int 2))) mNil))) mNil))))))))
  (mRetO (mMake M_Seen___init__ 4 0 [.p 0, .p 1, .p 2, .p 3] [.tup []] [] (mCons (mFz (mCB (f1 listL) (mCons (mOp ixD (mVar 0) (mC (.int 0))) mNil))) (mCons (mVar 2) (mCons (mFz (mCB (f1 listL) (mCons (mOp ixD (mVar 0) (mC (.int 2))) mNil))) (mCons (mFz (mComp (mSeqI (mOp ixD (mVar 0) (mC (.int 3))) (tgName 4)) [4] (fun _ => .ok true) (mFz (mCB (f1 listL) (mCons (mVar 4) mNil))))) mNil)))) mNil))) mNx)
  (mRetO (mMake M_Seen___init__ 4 0 [.p 0, .p 1, .p 2, .p 3] [.tup []] [] (mCons (mFz (mCB (f1 listL) (mCons (mOp ixD (mVar 0) (mC (.int 0))) mNil))) (mCons (mFz (mCB (f1 listL) (mCons (mOp ixD (mVar 0) (mC (.int 1))) mNil))) (mCons (mFz (mCB (f1 listL) (mCons (mOp ixD (mVar 0) (mC (.int 2))) mNil))) (mCons (mFz (mCB (f1 listL) (mCons (mOp ixD (mVar 0) (mC (.int 3))) mNil))) mNil)))) mNil))))
def M_law_made : List D → Res Ob := runF 5 2 m_law_made
theorem ok_law_made (c : Ctx w K mg) : FnOk P w K mg base (L2.CX P w) 10 (He.ga K "_law_made") (fd_law_made c) ["_law_seen_here", "_law_kind"] (spF K M_law_made) := by
  have sc := sc_law_made
  refine fn_F (fn_law_made c) sc fun cdv A outer s H E hr => ?_
  have hr0 := hr
  have tk : Takes (cxOf (L2.CX P w) P w K mg base ["_law_seen_here", "_law_kind", "_law_rows", "_law_taking_here", "_law_tie"] "_law_made" (defScope s_law_made) (He.ga K "_law_made") cdv A outer s H E) (fun cls d _ H => E cls d H) := takes_of rfl rfl rfl rfl
  have po : PassesOwn (model P w) (A.deeper (envOfC "_law_made" (defScope s_law_made) s.heap.objs.size (He.ga K "_law_made") cdv)) (envOfC "_law_made" (defScope s_law_made) s.heap.objs.size (He.ga K "_law_made") cdv) (cxOf (L2.CX P w) P w K mg base ["_law_seen_here", "_law_kind", "_law_rows", "_law_taking_here", "_law_tie"] "_law_made" (defScope s_law_made) (He.ga K "_law_made") cdv A outer s H E).xe := passes_of rfl
  exact (sb_cons (ss_if (st_cmp (op_eqD (units64 hr0)) sr_eqD (SE.pt (se_var 1)) (SE.pt se_int) (nomark _)) (sb_one (ss_retO (se_make (c := "Seen") (sp := [.p 0, .p 1, .p 2, .p 3]) (c.mkr 26 rfl) (ok_Seen___init__ c) (hr0.mono (by omega)) tk (c.gl 27 rfl) (kb_Seen___init___5 c) (sp_cons (se_cty late_P call_tupleZ src_tuple (fr_tuple c) (by decide +kernel) (sa_cons (SE.pt (se_ix (SE.pt (se_var 0)) (SE.pt se_int))) sa_nil)) (sp_cons (se_cty late_P call_tupleZ src_tuple (fr_tuple c) (by decide +kernel) (sa_cons (SE.pt (se_ix (SE.pt (se_var 0)) (SE.pt se_int))) sa_nil)) (sp_cons (se_cty late_P call_tupleZ src_tuple (fr_tuple c) (by decide +kernel) (sa_cons (SE.pt (se_ix (SE.pt (se_var 0)) (SE.pt se_int))) sa_nil)) (sp_cons (se_cty late_P call_tupleZ src_tuple (fr_tuple c) (by decide +kernel) (sa_cons (SE.pt (se_ix (SE.pt (se_var 0)) (SE.pt se_int))) sa_nil)) sp_nil)))) sk_nil))) sb_nil)
    (sb_cons (ss_if (st_cmp (op_eqD (units64 hr0)) sr_eqD (SE.pt (se_var 1)) (SE.pt se_int) (nomark _)) (sb_cons (ss_setLc 2 (slc (own := [("_law_taking_here", 3)]) (SIc.t (ic_seq (se_ix (SE.pt (se_var 0)) (SE.pt se_int)))) (fun _ _ _ _ _ => by exact (tg_name 3 sc.nd)) (fun _ _ _ _ _ => by exact (SE.fz (se_lst (sp_cons (se_ix (SE.pt (se_var 3)) (SE.pt se_int)) (sp_cons (se_ix (SE.pt (se_var 3)) (SE.pt se_int)) (sp_cons (SE.fz (se_cty late_F call_list_of src_list (fr_list c) (by decide +kernel) (sa_cons (SE.pt (se_ix (SE.pt (se_var 3)) (SE.pt se_int))) sa_nil))) sp_nil))))))) rfl sc.nd (blkOk_by (show blkC ["_law_seen_here", "_law_kind", "_law_rows", "_law_taking_here", "_law_tie"] (defScope s_law_made) _ _ = true by decide +kernel)) (sw_true rfl rfl rfl (by decide +kernel)))
    (sb_one (ss_retO (se_make (c := "Seen") (sp := [.p 0, .p 1, .p 2, .p 3]) (c.mkr 26 rfl) (ok_Seen___init__ c) (hr0.mono (by omega)) tk (c.gl 27 rfl) (kb_Seen___init___5 c) (sp_cons (SE.fz (se_cty late_F call_list_of src_list (fr_list c) (by decide +kernel) (sa_cons (SE.pt (se_ix (SE.pt (se_var 0)) (SE.pt se_int))) sa_nil))) (sp_cons (se_var 2) (sp_cons (SE.fz (se_cty late_F call_list_of src_list (fr_list c) (by decide +kernel) (sa_cons (SE.pt (se_ix (SE.pt (se_var 0)) (SE.pt se_int))) sa_nil))) (sp_cons (SE.fz (se_lc (slc (own := [("_law_tie", 4)]) (SIc.t (ic_seq (se_ix (SE.pt (se_var 0)) (SE.pt se_int)))) (fun _ _ _ _ _ => by exact (tg_name 4 sc.nd)) (fun _ _ _ _ _ => by exact (SE.fz (se_cty late_F call_list_of src_list (fr_list c) (by decide +kernel) (sa_cons (SE.pt (se_var 4)) sa_nil))))) rfl sc.nd (blkOk_by (show blkC ["_law_seen_here", "_law_kind", "_law_rows", "_law_taking_here", "_law_tie"] (defScope s_law_made) _ _ = true by decide +kernel)))) sp_nil)))) sk_nil)))) sb_nil)
    (sb_one (ss_retO (se_make (c := "Seen") (sp := [.p 0, .p 1, .p 2, .p 3]) (c.mkr 26 rfl) (ok_Seen___init__ c) (hr0.mono (by omega)) tk (c.gl 27 rfl) (kb_Seen___init___5 c) (sp_cons (SE.fz (se_cty late_F call_list_of src_list (fr_list c) (by decide +kernel) (sa_cons (SE.pt (se_ix (SE.pt (se_var 0)) (SE.pt se_int))) sa_nil))) (sp_cons (SE.fz (se_cty late_F call_list_of src_list (fr_list c) (by decide +kernel) (sa_cons (SE.pt (se_ix (SE.pt (se_var 0)) (SE.pt se_int))) sa_nil))) (sp_cons (SE.fz (se_cty late_F call_list_of src_list (fr_list c) (by decide +kernel) (sa_cons (SE.pt (se_ix (SE.pt (se_var 0)) (SE.pt se_int))) sa_nil))) (sp_cons (SE.fz (se_cty late_F call_list_of src_list (fr_list c) (by decide +kernel) (sa_cons (SE.pt (se_ix (SE.pt (se_var 0)) (SE.pt se_int))) sa_nil))) sp_nil)))) sk_nil)))))
/-! ### _law_asked -/
theorem sc_law_asked : FnScope ["_law_made_here", "_law_seen_here", "_law_lots_here", "_law_listed", "_law_result", "_law_judged_here"] ["_law_made_here", "_law_seen_here", "_law_lots_here", "_law_listed"] (defScope s_law_asked) := ⟨rfl, rfl, rfl, by decide +kernel, rfl, by decide +kernel, by decide +kernel⟩
def m_law_asked : En → SR :=
  (mSeq (mSet 4 (mCall M_peel [] (mCons (mVar 0) mNil)))
  (mSeq (mIfS (mNot (mTest (mCall M_law_right [] (mCons (mVar 0) (mCons (mVar 1) (mCons (mVar 4) mNil)))))) (mRet (mC .non)) mNx)
  (mSeq (mSet 5 (mFzO (mCallF M_law_judged [] (mCons (mVar 0) (mCons (mVar 1) (mCons (mVar 2) (mCons (mUn (fldD ["Peel"] "left") (mVar 4)) (mCons (mVar 3) mNil))))))))
  (mSeq (mIfS (mOr (mNot (mTest (mOp ixD (mVar 5) (mC (.int 0))))) (mAnd (mTest (mOp ixD (mVar 5) (mC (.int 1)))) (mTest (mOp notN (mUn (fldD ["Peel"] "order") (mVar 4)) (mC .non))))) (mRet (mC .non)) mNx)
  (mRet (mVar 4))))))
def M_law_asked : List D → Res D := runD 6 4 m_law_asked
theorem ok_law_asked (c : Ctx w K mg) : FnOk P w K mg base (L2.CX P w) 9 (He.ga K "_law_asked") (fd_law_asked c) ["_law_made_here", "_law_seen_here", "_law_lots_here", "_law_listed"] (spD K M_law_asked) := by
  have sc := sc_law_asked
  refine fn_D (fn_law_asked c) sc fun cdv A outer s H E hr => ?_
  have hr0 := hr
  have tk : Takes (cxOf (L2.CX P w) P w K mg base ["_law_made_here", "_law_seen_here", "_law_lots_here", "_law_listed", "_law_result", "_law_judged_here"] "_law_asked" (defScope s_law_asked) (He.ga K "_law_asked") cdv A outer s H E) (fun cls d _ H => E cls d H) := takes_of rfl rfl rfl rfl
  have po : PassesOwn (model P w) (A.deeper (envOfC "_law_asked" (defScope s_law_asked) s.heap.objs.size (He.ga K "_law_asked") cdv)) (envOfC "_law_asked" (defScope s_law_asked) s.heap.objs.size (He.ga K "_law_asked") cdv) (cxOf (L2.CX P w) P w K mg base ["_law_made_here", "_law_seen_here", "_law_lots_here", "_law_listed", "_law_result", "_law_judged_here"] "_law_asked" (defScope s_law_asked) (He.ga K "_law_asked") cdv A outer s H E).xe := passes_of rfl
  exact (sb_cons (ss_set 4 sc.nd (se_call (ok_peel c) (hr0.mono (by omega)) tk (gl_peel c) (kp_peel c) (bd_peel c) .nil (fun _ => repsNil) (sp_cons (se_var 0) sp_nil)))
    (sb_cons (ss_if (st_not (st_val (SE.pt (se_call (ok_law_right c) (hr0.mono (by omega)) tk (gl_law_right c) (kp_law_right c) (bd_law_right c) .nil (fun _ => repsNil) (sp_cons (se_var 0) (sp_cons (se_var 1) (sp_cons (se_var 4) sp_nil))))))) (sb_one (ss_ret se_non)) sb_nil)
    (sb_cons (ss_set 5 sc.nd (SE.fzO (se_callF (ok_law_judged c) (hr0.mono (by omega)) tk (gl_law_judged c) (kp_law_judged c) (bd_law_judged c) .nil (fun _ => repsNil) (sp_cons (se_var 0) (sp_cons (se_var 1) (sp_cons (se_var 2) (sp_cons (se_fld (fo_left c) (se_var 4)) (sp_cons (se_var 3) sp_nil))))))))
    (sb_cons (ss_if (SW.st (sw_or (st_not (st_val (SE.pt (se_ix (SE.pt (se_var 5)) (SE.pt se_int))))) (sw_or1 (SW.st (sw_and (st_val (SE.pt (se_ix (SE.pt (se_var 5)) (SE.pt se_int)))) (sw_and1 (st_cmp op_notN sr_notN (SE.pt (se_fld (fo_order c) (se_var 4))) (SE.pt se_non) (nomark _)))))))) (sb_one (ss_ret se_non)) sb_nil)
    (sb_one (ss_ret (se_var 4)))))))
/-! ### law -/
theorem sc_law : FnScope ["_law_script", "_law_head", "_law_seen_here", "_law_made_here", "_law_first", "_law_turns", "_law_lots_here", "_law_judged_here", "_law_ties_here", "_law_one", "_law_others", "_law_kept", "_law_fewer", "_law_second", "_law_two", "_law_more", "_law_third", "_law_name", "_law_cloak"] ["_law_script"] (defScope s_law) := ⟨rfl, rfl, rfl, by decide +kernel, rfl, by decide +kernel, by decide +kernel⟩
def m_law : En → SR :=
  (mSeq (mSet 1 (mFzO (mCallF M_law_digits [] (mCons (mCall M_law_cell [] (mCons (mVar 0) (mCons (mC (.int 0)) mNil))) (mCons (mFz (mLstL (mCons (mC (.int 12)) (mCons (mC (.int 12)) (mCons (mC (.int 3)) (mCons (mC (.int 2)) mNil)))))) mNil)))))
  (mSeq (mSet 2 (mFzO (mCallF M_law_seen [] (mCons (mVar 0) (mCons (mC (.int 3)) (mCons (mOp ixD (mFz (mLstL (mCons (mC (.int 6)) (mCons (mC (.int 12)) mNil)))) (mCB (f1 intD) (mCons (mOp eqD (mOp ixD (mVar 1) (mC (.int 0))) (mC (.int 0))) mNil))) (mCons (mOp ixD (mFz (mLstL (mCons (mC (.int 10)) (mCons (mC (.int 60)) mNil)))) (mCB (f1 intD) (mCons (mOp eqD (mOp ixD (mVar 1) (mC (.int 1))) (mC (.int 0))) mNil))) mNil)))))))
  (mSeq (mSet 3 (mFzO (mCallF M_law_made [] (mCons (mVar 2) (mCons (mOp ixD (mVar 1) (mC (.int 2))) mNil)))))
  (mSeq (mSet 4 (mCall M_peel [] (mCons (mVar 3) mNil)))
  (mSeq (mIfS (mNot (mTest (mCall M_law_right [] (mCons (mVar 3) (mCons (mVar 2) (mCons (mVar 4) mNil)))))) (mRet (mC (.bl false))) mNx)
  (mSeq (mSet 5 (mFzO (mCallF M_law_digits [] (mCons (mCall M_law_cell [] (mCons (mVar 0) (mCons (mC (.int 1)) mNil))) (mCons (mFz (mOp addL (mFz (mOp mulL (mFz (mLstL (mCons (mC (.int 12)) mNil))) (mC (.int 13)))) (mFz (mLstL (mCons (mC (.int 11)) mNil))))) mNil)))))
  (mSeq (mIfS (mTest (mOp neD (mCall M_law_left [] (mCons (mVar 2) (mCons (mVar 5) mNil))) (mUn (fldD ["Peel"] "left") (mVar 4)))) (mRet (mC (.bl false))) mNx)
  (mSeq (mSet 6 (mFzO (mCallF M_law_lots [] (mCons (mVar 2) (mCons (mFzO (mCallF M_law_digits [] (mCons (mCall M_law_cell [] (mCons (mVar 0) (mCons (mC (.int 2)) mNil))) (mCons (mFz (mOp mulL (mFz (mLstL (mCons (mC (.int 12)) mNil))) (mC (.int 240)))) mNil)))) mNil)))))
  (mSeq (mSet 7 (mFzO (mCallF M_law_judged [] (mCons (mVar 3) (mCons (mVar 2) (mCons (mVar 6) (mCons (mUn (fldD ["Peel"] "left") (mVar 4)) (mCons (mOp eqD (mOp ixD (mVar 1) (mC (.int 3))) (mC (.int 1))) mNil))))))))
  (mSeq (mIfS (mOr (mNot (mTest (mOp ixD (mVar 7) (mC (.int 0))))) (mTest (mOp neD (mOp ixD (mVar 7) (mC (.int 1))) (mOp isN (mUn (fldD ["Peel"] "order") (mVar 4)) (mC .non))))) (mRet (mC (.bl false))) mNx)
  (mSeq (mFor (mSeqI (mFz (mLstL (mCons (mOp ixD (mVar 2) (mC (.int 3))) (mCons (mSl slX (mOp ixD (mVar 2) (mC (.int 3))) mONone (mOSome (mUn negD (mC (.int 1))))) mNil)))) (tgName 8)) (mSeq (mSet 12 (mFz (mLstL (mCons (mOp ixD (mVar 2) (mC (.int 0))) (mCons (mSl slX (mOp ixD (mVar 2) (mC (.int 1))) mONone (mOSome (mUn negD (mC (.int 1))))) (mCons (mOp ixD (mVar 2) (mC (.int 2))) (mCons (mVar 8) mNil)))))))
  (mSeq (mSet 13 (mCall M_law_asked [] (mCons (mFzO (mCallF M_law_made [] (mCons (mVar 12) (mCons (mOp modD (mCB (f1 intD) (mCons (mOp addD (mOp ixD (mVar 1) (mC (.int 2))) (mC (.int 1))) mNil)) (mC (.int 3))) mNil)))) (mCons (mVar 12) (mCons (mFz (mSl slL (mVar 6) (mOSome (mUn negD (mC (.int 12)))) mONone)) (mCons (mOp eqD (mOp ixD (mVar 1) (mC (.int 3))) (mC (.int 0))) mNil))))))
  (mIfS (mOr (mTest (mOp isN (mVar 13) (mC .non))) (mTest (mOp gtX (mCB (f1 lenD) (mCons (mFz (mComp (mSeqI (mUn (fldD ["Peel"] "left") (mVar 13)) (tgName 18)) [18] (mTest (mOp niY (mVar 18) (mUn (fldD ["Peel"] "left") (mVar 4)))) (mVar 18))) mNil)) (mC (.int 0))))) (mRet (mC (.bl false))) mNx))))
  (mSeq (mSet 9 (mOp ixD (mOp ixD (mVar 2) (mC (.int 0))) (mOp modD (mCB (f1 intD) (mCons (mOp ixD (mVar 5) (mC (.int 12))) mNil)) (mCB (f1 lenD) (mCons (mOp ixD (mVar 2) (mC (.int 0))) mNil)))))
  (mSeq (mSet 10 (mFz (mComp (mSeqI (mOp ixD (mVar 2) (mC (.int 0))) (tgName 17)) [17] (mTest (mOp neD (mVar 17) (mVar 9))) (mVar 17))))
  (mSeq (mIfS (mTest (mOp gtX (mCB (f1 lenD) (mCons (mVar 10) mNil)) (mC (.int 0)))) (mSeq (mSet 14 (mOp ixD (mVar 10) (mOp modD (mCB (f1 intD) (mCons (mOp ixD (mVar 5) (mC (.int 13))) mNil)) (mCB (f1 lenD) (mCons (mVar 10) mNil)))))
  (mSeq (mSet 15 (mFz (mLstL (mCons (mOp ixD (mVar 2) (mC (.int 0))) (mCons (mOp ixD (mVar 2) (mC (.int 1))) (mCons (mOp ixD (mVar 2) (mC (.int 2))) (mCons (mFz (mOp addL (mFz (mCB (f1 listL) (mCons (mOp ixD (mVar 2) (mC (.int 3))) mNil))) (mFz (mLstL (mCons (mTupL (mCons (mVar 9) (mCons (mVar 14) mNil))) mNil))))) mNil)))))))
  (mSeq (mSet 16 (mCall M_law_asked [] (mCons (mFzO (mOMeth "Seen" "tied" M_Seen_tied 2 0 [.p 0, .p 1, .p 2] [] [] (mVar 3) (mCons (mVar 9) (mCons (mVar 14) mNil)) mNil)) (mCons (mVar 15) (mCons (mFz (mSl slL (mVar 6) (mOSome (mUn negD (mC (.int 12)))) mONone)) (mCons (mOp eqD (mOp ixD (mVar 1) (mC (.int 3))) (mC (.int 1))) mNil))))))
  (mIfS (mOr (mTest (mOp isN (mVar 16) (mC .non))) (mTest (mOp gtX (mCB (f1 lenD) (mCons (mFz (mComp (mSeqI (mUn (fldD ["Peel"] "left") (mVar 4)) (tgName 18)) [18] (mTest (mOp niY (mVar 18) (mUn (fldD ["Peel"] "left") (mVar 16)))) (mVar 18))) mNil)) (mC (.int 0))))) (mRet (mC (.bl false))) mNx)))) mNx)
  (mSeq (mIfS (mTest (mOp isN (mCall M_law_asked [] (mCons (mVar 3) (mCons (mVar 2) (mCons (mFz (mSl slL (mVar 6) (mOSome (mUn negD (mC (.int 12)))) mONone)) (mCons (mOp eqD (mOp ixD (mVar 1) (mC (.int 3))) (mC (.int 0))) mNil))))) (mC .non))) (mRet (mC (.bl false))) mNx)
  (mSeq (mSet 11 (mAndV (mCall (M_law_same 5) [] (mCons (mUn (fldD ["Seen"] "guests") (mVar 3)) (mCons (mCB (f1 tupleD) (mCons (mOp ixD (mVar 2) (mC (.int 0))) mNil)) mNil))) (mCall (M_law_same 5) [] (mCons (mUn (fldD ["Seen"] "takings") (mVar 3)) (mCons (mCB (f1 tupleD) (mCons (mOp ixD (mVar 2) (mC (.int 1))) mNil)) mNil)))))
  (mSeq (mSet 11 (mAndV (mVar 11) (mAndV (mCall (M_law_same 5) [] (mCons (mUn (fldD ["Seen"] "depths") (mVar 3)) (mCons (mCB (f1 tupleD) (mCons (mOp ixD (mVar 2) (mC (.int 2))) mNil)) mNil))) (mCall (M_law_same 5) [] (mCons (mUn (fldD ["Seen"] "ties") (mVar 3)) (mCons (mCB (f1 tupleD) (mCons (mOp ixD (mVar 2) (mC (.int 3))) mNil)) mNil))))))
  (mRet (mAndV (mVar 11) (mCall M_law_right [] (mCons (mVar 3) (mCons (mVar 2) (mCons (mVar 4) mNil)))))))))))))))))))))))
def M_law : List D → Res D := runD 19 1 m_law
theorem ok_law (c : Ctx w K mg) : FnOk P w K mg base (L2.CX P w) 11 (He.ga K "law") (fd_law c) ["_law_script"] (spD K M_law) := by
  have sc := sc_law
  refine fn_D (fn_law c) sc fun cdv A outer s H E hr => ?_
  have hr0 := hr
  have tk : Takes (cxOf (L2.CX P w) P w K mg base ["_law_script", "_law_head", "_law_seen_here", "_law_made_here", "_law_first", "_law_turns", "_law_lots_here", "_law_judged_here", "_law_ties_here", "_law_one", "_law_others", "_law_kept", "_law_fewer", "_law_second", "_law_two", "_law_more", "_law_third", "_law_name", "_law_cloak"] "law" (defScope s_law) (He.ga K "law") cdv A outer s H E) (fun cls d _ H => E cls d H) := takes_of rfl rfl rfl rfl
  have po : PassesOwn (model P w) (A.deeper (envOfC "law" (defScope s_law) s.heap.objs.size (He.ga K "law") cdv)) (envOfC "law" (defScope s_law) s.heap.objs.size (He.ga K "law") cdv) (cxOf (L2.CX P w) P w K mg base ["_law_script", "_law_head", "_law_seen_here", "_law_made_here", "_law_first", "_law_turns", "_law_lots_here", "_law_judged_here", "_law_ties_here", "_law_one", "_law_others", "_law_kept", "_law_fewer", "_law_second", "_law_two", "_law_more", "_law_third", "_law_name", "_law_cloak"] "law" (defScope s_law) (He.ga K "law") cdv A outer s H E).xe := passes_of rfl
  exact (sb_cons (ss_set 1 sc.nd (SE.fzO (se_callF (ok_law_digits c) (hr0.mono (by omega)) tk (gl_law_digits c) (kp_law_digits c) (bd_law_digits c) .nil (fun _ => repsNil) (sp_cons (se_call (ok_law_cell c) (hr0.mono (by omega)) tk (gl_law_cell c) (kp_law_cell c) (bd_law_cell c) .nil (fun _ => repsNil) (sp_cons (se_var 0) (sp_cons se_int sp_nil))) (sp_cons (SE.fz (se_lst (sp_cons se_int (sp_cons se_int (sp_cons se_int (sp_cons se_int sp_nil)))))) sp_nil)))))
    (sb_cons (ss_set 2 sc.nd (SE.fzO (se_callF (ok_law_seen c) (hr0.mono (by omega)) tk (gl_law_seen c) (kp_law_seen c) (bd_law_seen c) .nil (fun _ => repsNil) (sp_cons (se_var 0) (sp_cons se_int (sp_cons (se_ix (SE.ft (se_lst (sp_cons se_int (sp_cons se_int sp_nil)))) (SE.pt (se_cty late_P call_int1 src_int (fr_int c) (by decide +kernel) (sa_cons (SE.pt (se_cmp late_P (op_eqD (units64 hr0)) sr_eqD (SE.pt (se_ix (SE.pt (se_var 1)) (SE.pt se_int))) (SE.pt se_int) (nomark _))) sa_nil)))) (sp_cons (se_ix (SE.ft (se_lst (sp_cons se_int (sp_cons se_int sp_nil)))) (SE.pt (se_cty late_P call_int1 src_int (fr_int c) (by decide +kernel) (sa_cons (SE.pt (se_cmp late_P (op_eqD (units64 hr0)) sr_eqD (SE.pt (se_ix (SE.pt (se_var 1)) (SE.pt se_int))) (SE.pt se_int) (nomark _))) sa_nil)))) sp_nil)))))))
    (sb_cons (ss_set 3 sc.nd (SE.fzO (se_callF (ok_law_made c) (hr0.mono (by omega)) tk (gl_law_made c) (kp_law_made c) (bd_law_made c) .nil (fun _ => repsNil) (sp_cons (se_var 2) (sp_cons (se_ix (SE.pt (se_var 1)) (SE.pt se_int)) sp_nil)))))
    (sb_cons (ss_set 4 sc.nd (se_call (ok_peel c) (hr0.mono (by omega)) tk (gl_peel c) (kp_peel c) (bd_peel c) .nil (fun _ => repsNil) (sp_cons (se_var 3) sp_nil)))
    (sb_cons (ss_if (st_not (st_val (SE.pt (se_call (ok_law_right c) (hr0.mono (by omega)) tk (gl_law_right c) (kp_law_right c) (bd_law_right c) .nil (fun _ => repsNil) (sp_cons (se_var 3) (sp_cons (se_var 2) (sp_cons (se_var 4) sp_nil))))))) (sb_one (ss_ret se_bl)) sb_nil)
    (sb_cons (ss_set 5 sc.nd (SE.fzO (se_callF (ok_law_digits c) (hr0.mono (by omega)) tk (gl_law_digits c) (kp_law_digits c) (bd_law_digits c) .nil (fun _ => repsNil) (sp_cons (se_call (ok_law_cell c) (hr0.mono (by omega)) tk (gl_law_cell c) (kp_law_cell c) (bd_law_cell c) .nil (fun _ => repsNil) (sp_cons (se_var 0) (sp_cons se_int sp_nil))) (sp_cons (SE.fz (se_addL (SE.ft (se_mulL (SE.ft (se_lst (sp_cons se_int sp_nil))) (SE.pt se_int))) (SE.ft (se_lst (sp_cons se_int sp_nil))))) sp_nil)))))
    (sb_cons (ss_if (st_cmp (op_neD (units64 hr0)) sr_neD (SE.pt (se_call (ok_law_left c) (hr0.mono (by omega)) tk (gl_law_left c) (kp_law_left c) (bd_law_left c) .nil (fun _ => repsNil) (sp_cons (se_var 2) (sp_cons (se_var 5) sp_nil)))) (SE.pt (se_fld (fo_left c) (se_var 4))) (nomark _)) (sb_one (ss_ret se_bl)) sb_nil)
    (sb_cons (ss_set 6 sc.nd (SE.fzO (se_callF (ok_law_lots c) (hr0.mono (by omega)) tk (gl_law_lots c) (kp_law_lots c) (bd_law_lots c) .nil (fun _ => repsNil) (sp_cons (se_var 2) (sp_cons (SE.fzO (se_callF (ok_law_digits c) (hr0.mono (by omega)) tk (gl_law_digits c) (kp_law_digits c) (bd_law_digits c) .nil (fun _ => repsNil) (sp_cons (se_call (ok_law_cell c) (hr0.mono (by omega)) tk (gl_law_cell c) (kp_law_cell c) (bd_law_cell c) .nil (fun _ => repsNil) (sp_cons (se_var 0) (sp_cons se_int sp_nil))) (sp_cons (SE.fz (se_mulL (SE.ft (se_lst (sp_cons se_int sp_nil))) (SE.pt se_int))) sp_nil)))) sp_nil)))))
    (sb_cons (ss_set 7 sc.nd (SE.fzO (se_callF (ok_law_judged c) (hr0.mono (by omega)) tk (gl_law_judged c) (kp_law_judged c) (bd_law_judged c) .nil (fun _ => repsNil) (sp_cons (se_var 3) (sp_cons (se_var 2) (sp_cons (se_var 6) (sp_cons (se_fld (fo_left c) (se_var 4)) (sp_cons (se_cmp late_P (op_eqD (units64 hr0)) sr_eqD (SE.pt (se_ix (SE.pt (se_var 1)) (SE.pt se_int))) (SE.pt se_int) (nomark _)) sp_nil))))))))
    (sb_cons (ss_if (SW.st (sw_or (st_not (st_val (SE.pt (se_ix (SE.pt (se_var 7)) (SE.pt se_int))))) (sw_or1 (st_cmp (op_neD (units64 hr0)) sr_neD (SE.pt (se_ix (SE.pt (se_var 7)) (SE.pt se_int))) (SE.pt (se_cmp late_P op_isN sr_isN (SE.pt (se_fld (fo_order c) (se_var 4))) (SE.pt se_non) (nomark _))) (nomark _))))) (sb_one (ss_ret se_bl)) sb_nil)
    (sb_cons (ss_for po rfl (si_seq (SE.fz (se_lst (sp_cons (se_ix (SE.pt (se_var 2)) (SE.pt se_int)) (sp_cons (se_slX (SE.pt (se_ix (SE.pt (se_var 2)) (SE.pt se_int))) so_none (so_some (SE.pt (se_neg (SE.pt se_int))))) sp_nil)))) (tg_name 8 sc.nd)) (sb_cons (ss_set 12 sc.nd (SE.fz (se_lst (sp_cons (se_ix (SE.pt (se_var 2)) (SE.pt se_int)) (sp_cons (se_slX (SE.pt (se_ix (SE.pt (se_var 2)) (SE.pt se_int))) so_none (so_some (SE.pt (se_neg (SE.pt se_int))))) (sp_cons (se_ix (SE.pt (se_var 2)) (SE.pt se_int)) (sp_cons (se_var 8) sp_nil)))))))
    (sb_cons (ss_set 13 sc.nd (se_call (ok_law_asked c) (hr0.mono (by omega)) tk (gl_law_asked c) (kp_law_asked c) (bd_law_asked c) .nil (fun _ => repsNil) (sp_cons (SE.fzO (se_callF (ok_law_made c) (hr0.mono (by omega)) tk (gl_law_made c) (kp_law_made c) (bd_law_made c) .nil (fun _ => repsNil) (sp_cons (se_var 12) (sp_cons (se_mod (SE.pt (se_cty late_P call_int1 src_int (fr_int c) (by decide +kernel) (sa_cons (SE.pt (se_add (SE.pt (se_ix (SE.pt (se_var 1)) (SE.pt se_int))) (SE.pt se_int))) sa_nil))) (SE.pt se_int)) sp_nil)))) (sp_cons (se_var 12) (sp_cons (SE.fz (se_slL (SE.pt (se_var 6)) (so_some (SE.pt (se_neg (SE.pt se_int)))) so_none)) (sp_cons (se_cmp late_P (op_eqD (units64 hr0)) sr_eqD (SE.pt (se_ix (SE.pt (se_var 1)) (SE.pt se_int))) (SE.pt se_int) (nomark _)) sp_nil))))))
    (sb_one (ss_if (SW.st (sw_or (st_cmp op_isN sr_isN (SE.pt (se_var 13)) (SE.pt se_non) (nomark _)) (sw_or1 (st_cmp op_gtX sr_gtX (SE.pt (se_cb late_P call_len2 src_len (fr_len c) (by decide +kernel) (sa_cons (SE.ft (se_lc (slc_if (own := [("_law_cloak", 18)]) (SIc.t (ic_seq (se_fld (fo_left c) (se_var 13)))) (fun _ _ _ _ _ => by exact (tg_name 18 sc.nd)) (fun _ _ _ _ _ => by exact (st_cmp (op_niY (units1 hr0) (units65 hr0)) sr_niY (SE.pt (se_var 18)) (SE.pt (se_fld (fo_left c) (se_var 4))) (by rfl))) (fun _ _ _ _ _ => by exact (se_var 18))) rfl sc.nd (blkOk_by (show blkC ["_law_script", "_law_head", "_law_seen_here", "_law_made_here", "_law_first", "_law_turns", "_law_lots_here", "_law_judged_here", "_law_ties_here", "_law_one", "_law_others", "_law_kept", "_law_fewer", "_law_second", "_law_two", "_law_more", "_law_third", "_law_name", "_law_cloak"] (defScope s_law) _ _ = true by decide +kernel)))) sa_nil))) (SE.pt se_int) (nomark _))))) (sb_one (ss_ret se_bl)) sb_nil)))))
    (sb_cons (ss_set 9 sc.nd (se_ix (SE.pt (se_ix (SE.pt (se_var 2)) (SE.pt se_int))) (SE.pt (se_mod (SE.pt (se_cty late_P call_int1 src_int (fr_int c) (by decide +kernel) (sa_cons (SE.pt (se_ix (SE.pt (se_var 5)) (SE.pt se_int))) sa_nil))) (SE.pt (se_cb late_P call_len2 src_len (fr_len c) (by decide +kernel) (sa_cons (SE.pt (se_ix (SE.pt (se_var 2)) (SE.pt se_int))) sa_nil)))))))
    (sb_cons (ss_setLc 10 (slc_if (own := [("_law_name", 17)]) (SIc.t (ic_seq (se_ix (SE.pt (se_var 2)) (SE.pt se_int)))) (fun _ _ _ _ _ => by exact (tg_name 17 sc.nd)) (fun _ _ _ _ _ => by exact (st_cmp (op_neD (units64 hr0)) sr_neD (SE.pt (se_var 17)) (SE.pt (se_var 9)) (nomark _))) (fun _ _ _ _ _ => by exact (se_var 17))) rfl sc.nd (blkOk_by (show blkC ["_law_script", "_law_head", "_law_seen_here", "_law_made_here", "_law_first", "_law_turns", "_law_lots_here", "_law_judged_here", "_law_ties_here", "_law_one", "_law_others", "_law_kept", "_law_fewer", "_law_second", "_law_two", "_law_more", "_law_third", "_law_name", "_law_cloak"] (defScope s_law) _ _ = true by decide +kernel)) (sw_true rfl rfl rfl (by decide +kernel)))
    (sb_cons (ss_if (st_cmp op_gtX sr_gtX (SE.pt (se_cb late_P call_len2 src_len (fr_len c) (by decide +kernel) (sa_cons (SE.pt (se_var 10)) sa_nil))) (SE.pt se_int) (nomark _)) (sb_cons (ss_set 14 sc.nd (se_ix (SE.pt (se_var 10)) (SE.pt (se_mod (SE.pt (se_cty late_P call_int1 src_int (fr_int c) (by decide +kernel) (sa_cons (SE.pt (se_ix (SE.pt (se_var 5)) (SE.pt se_int))) sa_nil))) (SE.pt (se_cb late_P call_len2 src_len (fr_len c) (by decide +kernel) (sa_cons (SE.pt (se_var 10)) sa_nil)))))))
    (sb_cons (ss_set 15 sc.nd (SE.fz (se_lst (sp_cons (se_ix (SE.pt (se_var 2)) (SE.pt se_int)) (sp_cons (se_ix (SE.pt (se_var 2)) (SE.pt se_int)) (sp_cons (se_ix (SE.pt (se_var 2)) (SE.pt se_int)) (sp_cons (SE.fz (se_addL (SE.ft (se_cty late_F call_list_of src_list (fr_list c) (by decide +kernel) (sa_cons (SE.pt (se_ix (SE.pt (se_var 2)) (SE.pt se_int))) sa_nil))) (SE.ft (se_lst (sp_cons (se_tup (sp_cons (se_var 9) (sp_cons (se_var 14) sp_nil))) sp_nil))))) sp_nil)))))))
    (sb_cons (ss_set 16 sc.nd (se_call (ok_law_asked c) (hr0.mono (by omega)) tk (gl_law_asked c) (kp_law_asked c) (bd_law_asked c) .nil (fun _ => repsNil) (sp_cons (SE.fzO (se_omF (c := "Seen") (ks := []) (c.cl 8 rfl) (c.mt 30 rfl) (ok_Seen_tied c) (hr0.mono (by omega)) tk (kb_Seen_tied_3 c) (se_var 3) (sp_cons (se_var 9) (sp_cons (se_var 14) sp_nil)) sk_nil)) (sp_cons (se_var 15) (sp_cons (SE.fz (se_slL (SE.pt (se_var 6)) (so_some (SE.pt (se_neg (SE.pt se_int)))) so_none)) (sp_cons (se_cmp late_P (op_eqD (units64 hr0)) sr_eqD (SE.pt (se_ix (SE.pt (se_var 1)) (SE.pt se_int))) (SE.pt se_int) (nomark _)) sp_nil))))))
    (sb_one (ss_if (SW.st (sw_or (st_cmp op_isN sr_isN (SE.pt (se_var 16)) (SE.pt se_non) (nomark _)) (sw_or1 (st_cmp op_gtX sr_gtX (SE.pt (se_cb late_P call_len2 src_len (fr_len c) (by decide +kernel) (sa_cons (SE.ft (se_lc (slc_if (own := [("_law_cloak", 18)]) (SIc.t (ic_seq (se_fld (fo_left c) (se_var 4)))) (fun _ _ _ _ _ => by exact (tg_name 18 sc.nd)) (fun _ _ _ _ _ => by exact (st_cmp (op_niY (units1 hr0) (units65 hr0)) sr_niY (SE.pt (se_var 18)) (SE.pt (se_fld (fo_left c) (se_var 16))) (by rfl))) (fun _ _ _ _ _ => by exact (se_var 18))) rfl sc.nd (blkOk_by (show blkC ["_law_script", "_law_head", "_law_seen_here", "_law_made_here", "_law_first", "_law_turns", "_law_lots_here", "_law_judged_here", "_law_ties_here", "_law_one", "_law_others", "_law_kept", "_law_fewer", "_law_second", "_law_two", "_law_more", "_law_third", "_law_name", "_law_cloak"] (defScope s_law) _ _ = true by decide +kernel)))) sa_nil))) (SE.pt se_int) (nomark _))))) (sb_one (ss_ret se_bl)) sb_nil))))) sb_nil)
    (sb_cons (ss_if (st_cmp op_isN sr_isN (SE.pt (se_call (ok_law_asked c) (hr0.mono (by omega)) tk (gl_law_asked c) (kp_law_asked c) (bd_law_asked c) .nil (fun _ => repsNil) (sp_cons (se_var 3) (sp_cons (se_var 2) (sp_cons (SE.fz (se_slL (SE.pt (se_var 6)) (so_some (SE.pt (se_neg (SE.pt se_int)))) so_none)) (sp_cons (se_cmp late_P (op_eqD (units64 hr0)) sr_eqD (SE.pt (se_ix (SE.pt (se_var 1)) (SE.pt se_int))) (SE.pt se_int) (nomark _)) sp_nil)))))) (SE.pt se_non) (nomark _)) (sb_one (ss_ret se_bl)) sb_nil)
    (sb_cons (ss_set 11 sc.nd (se_and (SE.pt (se_call (ok_law_same c 5) (hr0.mono (by omega)) tk (gl_law_same c) (kp_law_same c) (bd_law_same c) .nil (fun _ => repsNil) (sp_cons (se_fld (fo_guests c) (se_var 3)) (sp_cons (se_cty late_P call_tupleZ src_tuple (fr_tuple c) (by decide +kernel) (sa_cons (SE.pt (se_ix (SE.pt (se_var 2)) (SE.pt se_int))) sa_nil)) sp_nil)))) (se_one (se_call (ok_law_same c 5) (hr0.mono (by omega)) tk (gl_law_same c) (kp_law_same c) (bd_law_same c) .nil (fun _ => repsNil) (sp_cons (se_fld (fo_takings c) (se_var 3)) (sp_cons (se_cty late_P call_tupleZ src_tuple (fr_tuple c) (by decide +kernel) (sa_cons (SE.pt (se_ix (SE.pt (se_var 2)) (SE.pt se_int))) sa_nil)) sp_nil))))))
    (sb_cons (ss_set 11 sc.nd (se_and (SE.pt (se_var 11)) (se_and (SE.pt (se_call (ok_law_same c 5) (hr0.mono (by omega)) tk (gl_law_same c) (kp_law_same c) (bd_law_same c) .nil (fun _ => repsNil) (sp_cons (se_fld (fo_depths c) (se_var 3)) (sp_cons (se_cty late_P call_tupleZ src_tuple (fr_tuple c) (by decide +kernel) (sa_cons (SE.pt (se_ix (SE.pt (se_var 2)) (SE.pt se_int))) sa_nil)) sp_nil)))) (se_one (se_call (ok_law_same c 5) (hr0.mono (by omega)) tk (gl_law_same c) (kp_law_same c) (bd_law_same c) .nil (fun _ => repsNil) (sp_cons (se_fld (fo_ties c) (se_var 3)) (sp_cons (se_cty late_P call_tupleZ src_tuple (fr_tuple c) (by decide +kernel) (sa_cons (SE.pt (se_ix (SE.pt (se_var 2)) (SE.pt se_int))) sa_nil)) sp_nil)))))))
    (sb_one (ss_ret (se_and (SE.pt (se_var 11)) (se_one (se_call (ok_law_right c) (hr0.mono (by omega)) tk (gl_law_right c) (kp_law_right c) (bd_law_right c) .nil (fun _ => repsNil) (sp_cons (se_var 3) (sp_cons (se_var 2) (sp_cons (se_var 4) sp_nil)))))))))))))))))))))))))
end
end K49

set_option autoImplicit true
set_option Elab.async false
set_option linter.all false
set_option maxRecDepth 100000
set_option maxHeartbeats 2000000
/-! Plain facts about mirrors, for all laws. -/
namespace Pl
open PySem Sm L2

/-- not a definitional step for simp -/
theorem ir {α : Sort u} {a b : α} (h : a = b) : a = b := h
/-! ### the mirrors at an environment -/
@[simp] theorem rb_ok {α β : Type} (a : α) (f : α → Res β) : Res.bind (.ok a) f = f a := ir rfl
@[simp] theorem rb_stuck {α β : Type} (f : α → Res β) : Res.bind (.stuck) f = .stuck := ir rfl
@[simp] theorem e_mB {α γ : Type} (m : En → Res α) (f : α → En → Res γ) (env : En) : mB m f env = (m env).bind fun a => f a env := ir rfl
def clD : Option Cl → Res D
  | some (.sh d) => .ok d
  | _ => .stuck
@[simp] theorem clD_sh (d : D) : clD (some (.sh d)) = .ok d := ir rfl
def clT : Option Cl → Res D
  | some (.sh d) => .ok d
  | some (.ow (.lst xs)) => .ok (.lst xs)
  | _ => .stuck
@[simp] theorem clT_sh (d : D) : clT (some (.sh d)) = .ok d := ir rfl
@[simp] theorem clT_ow (xs : List D) : clT (some (.ow (.lst xs))) = .ok (.lst xs) := ir rfl
@[simp] theorem e_mVar (i : Nat) (env : En) : mVar i env = clD env[i]? := ir rfl
@[simp] theorem e_mVarT (i : Nat) (env : En) : mVarT i env = clT env[i]? := ir rfl
@[simp] theorem e_mC (d : D) (env : En) : mC d env = .ok d := ir rfl
@[simp] theorem e_ofO_some {α : Type} (a : α) : ofO (some a) = .ok a := ir rfl
@[simp] theorem e_ofO_none {α : Type} : ofO (none : Option α) = .stuck := ir rfl
@[simp] theorem e_mOp {α : Type} (f : D → D → Option α) (ma mb : En → Res D) (env : En) : mOp f ma mb env = (ma env).bind fun a => (mb env).bind fun b => ofO (f a b) := ir rfl
@[simp] theorem e_mUn (f : D → Option D) (ma : En → Res D) (env : En) : mUn f ma env = (ma env).bind fun a => ofO (f a) := ir rfl
@[simp] theorem e_mNil (env : En) : mNil env = .ok [] := ir rfl
@[simp] theorem e_mCons (ma : En → Res D) (mr : En → Res (List D)) (env : En) : mCons ma mr env = (ma env).bind fun d => (mr env).bind fun ds => .ok (d :: ds) := ir rfl
@[simp] theorem e_mTupL (m : En → Res (List D)) (env : En) : mTupL m env = (m env).bind fun ds => if szB ds.length then .ok (.tup ds) else .stuck := ir rfl
@[simp] theorem e_mLstL (m : En → Res (List D)) (env : En) : mLstL m env = (m env).bind fun ds => if szB ds.length then .ok ds else .stuck := ir rfl
@[simp] theorem e_mFz (m : En → Res (List D)) (env : En) : mFz m env = (m env).bind fun xs => .ok (.lst xs) := ir rfl
@[simp] theorem e_mFzO (m : En → Res Ob) (env : En) : mFzO m env = (m env).bind fun o => .ok o.d := ir rfl
@[simp] theorem e_mLO (m : En → Res Ob) (env : En) : mLO m env = (m env).bind asL := ir rfl
@[simp] theorem e_mCB {α : Type} (f : List D → Res α) (m : En → Res (List D)) (env : En) : mCB f m env = (m env).bind fun ds => f ds := ir rfl
@[simp] theorem e_f1 {α : Type} (f : D → Res α) (d : D) : f1 f [d] = f d := ir rfl
@[simp] theorem e_f2 {α : Type} (f : D → D → Option α) (d e : D) : f2 f [d, e] = ofO (f d e) := ir rfl
@[simp] theorem e_mCall (F : List D → Res D) (dd : List D) (m : En → Res (List D)) (env : En) : mCall F dd m env = (m env).bind fun ds => F (ds ++ dd) := ir rfl
@[simp] theorem e_mCallF (F : List D → Res Ob) (dd : List D) (m : En → Res (List D)) (env : En) : mCallF F dd m env = (m env).bind fun ds => F (ds ++ dd) := ir rfl
@[simp] theorem e_mCallFT (F : List D → Res Ob) (dd : List D) (m : En → Res (List D)) (env : En) : mCallFT F dd m env = (m env).bind fun ds => flatF (F (ds ++ dd)) := ir rfl
@[simp] theorem e_mTest (m : En → Res D) (env : En) : mTest m env = (m env).bind asB := ir rfl
@[simp] theorem e_asB (b : Bool) : asB (.bl b) = .ok b := ir rfl
@[simp] theorem e_mTru (m : En → Res D) (env : En) : mTru m env = (m env).bind truB := ir rfl
@[simp] theorem e_truBl (b : Bool) : truB (.bl b) = .ok b := ir rfl
@[simp] theorem e_mAnd (mt mu : En → Res Bool) (env : En) : mAnd mt mu env = (mt env).bind fun c => if c then mu env else .ok false := ir rfl
@[simp] theorem e_mOr (mt mu : En → Res Bool) (env : En) : mOr mt mu env = (mt env).bind fun c => if c then .ok true else mu env := ir rfl
@[simp] theorem e_mNot (mt : En → Res Bool) (env : En) : mNot mt env = (mt env).bind fun c => .ok (!c) := ir rfl
@[simp] theorem e_mNotV (ma : En → Res D) (env : En) : mNotV ma env = (ma env).bind fun d => (truB d).bind fun b => .ok (.bl (!b)) := ir rfl
def andV (d : D) (r : Res D) : Res D := match d with
  | .bl true => r
  | .bl false => .ok (.bl false)
  | _ => .stuck
def orV (d : D) (r : Res D) : Res D := match d with
  | .bl false => r
  | .bl true => .ok (.bl true)
  | _ => .stuck
theorem andV_ok (b c : Bool) : andV (.bl b) (.ok (.bl c)) = .ok (.bl (b && c)) := by cases b <;> cases c <;> rfl
theorem orV_ok (b c : Bool) : orV (.bl b) (.ok (.bl c)) = .ok (.bl (b || c)) := by cases b <;> cases c <;> rfl
@[simp] theorem andV_t (r : Res D) : andV (.bl true) r = r := ir rfl
@[simp] theorem andV_f (r : Res D) : andV (.bl false) r = .ok (.bl false) := ir rfl
@[simp] theorem orV_t (r : Res D) : orV (.bl true) r = .ok (.bl true) := ir rfl
@[simp] theorem orV_f (r : Res D) : orV (.bl false) r = r := ir rfl
@[simp] theorem e_mAndV (ma mb : En → Res D) (env : En) : mAndV ma mb env = (ma env).bind fun d => andV d (mb env) := ir rfl
@[simp] theorem e_mOrV (ma mb : En → Res D) (env : En) : mOrV ma mb env = (ma env).bind fun d => orV d (mb env) := ir rfl
@[simp] theorem e_mIf {α : Type} (mt : En → Res Bool) (ma mb : En → Res α) (env : En) : mIf mt ma mb env = (mt env).bind fun c => if c then ma env else mb env := ir rfl
@[simp] theorem e_mChain (f g : D → D → Option D) (ma mb mc : En → Res D) (env : En) : mChain f g ma mb mc env = (ma env).bind fun a => (mb env).bind fun b => chainK f g (mc env) a b := ir rfl
@[simp] theorem e_mSl {α : Type} (f : D → Option Int → Option Int → Res α) (m : En → Res D) (ml mh : En → Res (Option Int)) (env : En) : mSl f m ml mh env = (m env).bind fun d => (ml env).bind fun lo => (mh env).bind fun hi => f d lo hi := ir rfl
@[simp] theorem e_mONone (env : En) : mONone env = .ok none := ir rfl
@[simp] theorem e_mOSome (m : En → Res D) (env : En) : mOSome m env = (m env).bind fun d => (asI d).bind fun i => .ok (some i) := ir rfl
@[simp] theorem e_asI (i : Int) : asI (.int i) = .ok i := ir rfl
@[simp] theorem e_mMeth {α : Type} (T : String) (f : D → List D → Option α) (mo : En → Res D) (ma : En → Res (List D)) (env : En) : mMeth T f mo ma env = (mo env).bind fun d => (if okT T d then mB ma (fun ds _ => ofO (f d ds)) else fun _ => .stuck) env := ir rfl
@[simp] theorem e_mTwo {α : Type} (F : List D → List D → Res α) (ma mk : En → Res (List D)) (env : En) : mTwo F ma mk env = (ma env).bind fun ds => (mk env).bind fun es => F ds es := ir rfl
@[simp] theorem e_mOMeth {α : Type} (c mn : Str) (F : List D → Res α) (n m : Nat) (sp : List Sl) (dd md : List D) (mo : En → Res D) (ma mk : En → Res (List D)) (env : En) : mOMeth c mn F n m sp dd md mo ma mk env = (mo env).bind fun d => (if isOb c mn d then mTwo (fun ds es => if ds.length = n ∧ es.length = m then F (arr sp (d :: ds) dd md es) else .stuck) ma mk else fun _ => .stuck) env := ir rfl
@[simp] theorem e_mMake (G : List D → Res Ob) (n m : Nat) (sp : List Sl) (dd md : List D) (ma mk : En → Res (List D)) (env : En) : mMake G n m sp dd md ma mk env = (ma env).bind fun ds => (mk env).bind fun es => if ds.length = n ∧ es.length = m then G (arr sp ds dd md es) else .stuck := ir rfl
@[simp] theorem e_mRevL (m : En → Res D) (env : En) : mRevL m env = (m env).bind revL := ir rfl
@[simp] theorem e_revL (xs : List D) : revL (.lst xs) = .ok xs.reverse := ir rfl
@[simp] theorem e_mListRg1 (m : En → Res D) (env : En) : mListRg1 m env = (m env).bind fun d => ofO (rgL (.int 0) d) := ir rfl
@[simp] theorem e_mListRg3 (m : En → Res (List D)) (env : En) : mListRg3 m env = (m env).bind fun ds => ofO (rg3L ds) := ir rfl
@[simp] theorem e_mTupRg3 (m : En → Res (List D)) (env : En) : mTupRg3 m env = (m env).bind fun ds => ofO (rg3T ds) := ir rfl
/-! statements -/
def resS {α : Type} (r : Res α) (f : α → En → SR) (env : En) : SR := match r with
  | .ok a => f a env
  | .exc c fn fv => .exc env c fn fv
  | .stuck => .stuck
@[simp] theorem resS_ok {α : Type} (a : α) (f : α → En → SR) (env : En) : resS (.ok a) f env = f a env := ir rfl
@[simp] theorem resS_exc {α : Type} (c fn fv) (f : α → En → SR) (env : En) : resS (.exc c fn fv : Res α) f env = .exc env c fn fv := ir rfl
@[simp] theorem resS_stuck {α : Type} (f : α → En → SR) (env : En) : resS (.stuck : Res α) f env = .stuck := ir rfl
@[simp] theorem e_mS {α : Type} (m : En → Res α) (f : α → En → SR) (env : En) : mS m f env = resS (m env) f env := ir rfl
def outD (r : SR) : Res D := match r with
  | .nx _ => .ok .non
  | .rt d => .ok d
  | .exc _ c fn fv => .exc c fn fv
  | _ => .stuck
@[simp] theorem outD_nx (e) : outD (.nx e) = .ok .non := ir rfl
@[simp] theorem outD_rt (e) : outD (.rt e) = .ok e := ir rfl
@[simp] theorem outD_exc (e c fn fv) : outD (.exc e c fn fv) = .exc c fn fv := ir rfl
def outF (r : SR) : Res Ob := match r with
  | .rf o => .ok o
  | .exc _ c fn fv => .exc c fn fv
  | _ => .stuck
@[simp] theorem outF_rf (e) : outF (.rf e) = .ok e := ir rfl
@[simp] theorem outF_exc (e c fn fv) : outF (.exc e c fn fv) = .exc c fn fv := ir rfl
@[simp] theorem e_runD (n np : Nat) (m : En → SR) (ds : List D) : runD n np m ds = if ds.length = np then outD (m (envOf n ds)) else .stuck := ir rfl
@[simp] theorem e_runF (n np : Nat) (m : En → SR) (ds : List D) : runF n np m ds = if ds.length = np then outF (m (envOf n ds)) else .stuck := ir rfl
@[simp] theorem e_envOf (n : Nat) (ds : List D) : envOf n ds = ds.map .sh ++ List.replicate (n - ds.length) .un := ir rfl
@[simp] theorem e_mNx (env : En) : mNx env = .nx env := ir rfl
def sThen (r : SR) (n : En → SR) : SR := match r with
  | .nx env' => n env'
  | r => r
@[simp] theorem sThen_nx (e : En) (n : En → SR) : sThen (.nx e) n = n e := ir rfl
@[simp] theorem sThen_rt (d : D) (n : En → SR) : sThen (.rt d) n = .rt d := ir rfl
@[simp] theorem sThen_rf (d : Ob) (n : En → SR) : sThen (.rf d) n = .rf d := ir rfl
@[simp] theorem sThen_exc (e : En) (c fn fv) (n : En → SR) : sThen (.exc e c fn fv) n = .exc e c fn fv := ir rfl
@[simp] theorem sThen_stuck (n : En → SR) : sThen .stuck n = .stuck := ir rfl
@[simp] theorem e_mSeq (m n : En → SR) (env : En) : mSeq m n env = sThen (m env) n := ir rfl
@[simp] theorem e_mSet (i : Nat) (m : En → Res D) (env : En) : mSet i m env = mS m (fun d env => .nx (env.set i (.sh d))) env := ir rfl
@[simp] theorem e_mSetF (i : Nat) (m : En → Res (List D)) (env : En) : mSetF i m env = mS m (fun d env => .nx (env.set i (.ow (.lst d)))) env := ir rfl
@[simp] theorem e_mSetO (i : Nat) (m : En → Res Ob) (env : En) : mSetO i m env = mS m (fun d env => .nx (env.set i (.ow d))) env := ir rfl
@[simp] theorem e_mRet (m : En → Res D) (env : En) : mRet m env = mS m (fun d _ => .rt d) env := ir rfl
@[simp] theorem e_mRetF (m : En → Res (List D)) (env : En) : mRetF m env = mS m (fun d _ => .rf (.lst d)) env := ir rfl
@[simp] theorem e_mRetO (m : En → Res Ob) (env : En) : mRetO m env = mS m (fun d _ => .rf d) env := ir rfl
def owF : Option Cl → SR
  | some (.ow o) => .rf o
  | _ => .stuck
@[simp] theorem owF_ow (o : Ob) : owF (some (.ow o)) = .rf o := ir rfl
@[simp] theorem e_mRetOw (i : Nat) (env : En) : mRetOw i env = owF env[i]? := ir rfl
@[simp] theorem e_mIfS (mt : En → Res Bool) (m n : En → SR) (env : En) : mIfS mt m n env = mS mt (fun c env => if c then m env else n env) env := ir rfl
@[simp] theorem e_mFor (mi : En → Res (List (En → Option En))) (body : En → SR) (env : En) : mFor mi body env = mS mi (fun bs env => loopM body bs env) env := ir rfl
@[simp] theorem e_mFrz (i : Nat) (m : En → SR) (env : En) : mFrz i m env = m (frz1 i env) := ir rfl
def frzC (i : Nat) (env : En) : Option Cl → En
  | some (.ow o) => env.set i (.sh o.d)
  | _ => env
@[simp] theorem frzC_ow (i : Nat) (env : En) (o : Ob) : frzC i env (some (.ow o)) = env.set i (.sh o.d) := ir rfl
@[simp] theorem frzC_sh (i : Nat) (env : En) (d : D) : frzC i env (some (.sh d)) = env := ir rfl
@[simp] theorem e_frz1 (i : Nat) (env : En) : frz1 i env = frzC i env env[i]? := ir rfl
@[simp] theorem obd_l (xs : List D) : (Ob.lst xs).d = .lst xs := ir rfl
@[simp] theorem obd_i (c : Str) (fn : List Str) (fv : List D) : (Ob.ins c fn fv).d = .obj c fn fv := ir rfl
@[simp] theorem obd_d (ks : List Key) (ds : List D) : (Ob.dct ks ds).d = .dct ks ds := ir rfl
@[simp] theorem e_asL (xs : List D) : asL (.lst xs) = .ok xs := ir rfl
def optS : Option En → SR
  | some e => .nx e
  | none => .stuck
@[simp] theorem optS_some (e : En) : optS (some e) = .nx e := ir rfl
@[simp] theorem e_mAsg (m : En → Res D) (f : D → En → Option En) (env : En) : mAsg m f env = resS (m env) (fun d env => optS (f d env)) env := ir rfl
def setO (i : Nat) (env : En) : Option (List D) → SR
  | some ys => .nx (env.set i (.ow (.lst ys)))
  | none => .stuck
@[simp] theorem setO_some (i : Nat) (env : En) (ys : List D) : setO i env (some ys) = .nx (env.set i (.ow (.lst ys))) := ir rfl
def mutC (i : Nat) (ma : En → Res (List D)) (g : List D → List D → Option (List D)) (env : En) : Option Cl → SR
  | some (.ow (.lst xs)) => resS (ma env) (fun ds env => setO i env (g xs ds)) env
  | _ => .stuck
@[simp] theorem mutC_ow (i : Nat) (ma : En → Res (List D)) (g : List D → List D → Option (List D)) (env : En) (xs : List D) : mutC i ma g env (some (.ow (.lst xs))) = resS (ma env) (fun ds env => setO i env (g xs ds)) env := ir rfl
@[simp] theorem e_mMut (i : Nat) (ma : En → Res (List D)) (g : List D → List D → Option (List D)) (env : En) : mMut i ma g env = mutC i ma g env env[i]? := ir rfl
def popO (i : Nat) (env : En) : Option (D × List D) → Res (D × En)
  | some (d, ys) => .ok (d, env.set i (.ow (.lst ys)))
  | none => .stuck
@[simp] theorem popO_some (i : Nat) (env : En) (d : D) (ys : List D) : popO i env (some (d, ys)) = .ok (d, env.set i (.ow (.lst ys))) := ir rfl
def popC (i : Nat) (ma : En → Res (List D)) (g : List D → List D → Option (D × List D)) (env : En) : Option Cl → Res (D × En)
  | some (.ow (.lst xs)) => (ma env).bind fun ds => popO i env (g xs ds)
  | _ => .stuck
@[simp] theorem popC_ow (i : Nat) (ma : En → Res (List D)) (g : List D → List D → Option (D × List D)) (env : En) (xs : List D) : popC i ma g env (some (.ow (.lst xs))) = (ma env).bind fun ds => popO i env (g xs ds) := ir rfl
@[simp] theorem e_mPop (i : Nat) (ma : En → Res (List D)) (g : List D → List D → Option (D × List D)) (env : En) : mPop i ma g env = popC i ma g env env[i]? := ir rfl
def appC2 (i : Nat) (d : D) (env : En) : Option Cl → SR
  | some (.ow (.lst xs)) => setO i env (appG xs [d])
  | _ => .stuck
@[simp] theorem appC2_ow (i : Nat) (d : D) (env : En) (xs : List D) : appC2 i d env (some (.ow (.lst xs))) = setO i env (appG xs [d]) := ir rfl
def appC1 (i : Nat) (env : En) : Res (D × En) → SR
  | .ok (d, env') => appC2 i d env' env'[i]?
  | .exc c fn fv => .exc env c fn fv
  | .stuck => .stuck
@[simp] theorem appC1_ok (i : Nat) (env : En) (d : D) (env' : En) : appC1 i env (.ok (d, env')) = appC2 i d env' env'[i]? := ir rfl
def appC (i : Nat) (m : En → Res (D × En)) (env : En) : Option Cl → SR
  | some (.ow (.lst _)) => appC1 i env (m env)
  | _ => .stuck
@[simp] theorem appC_ow (i : Nat) (m : En → Res (D × En)) (env : En) (xs : List D) : appC i m env (some (.ow (.lst xs))) = appC1 i env (m env) := ir rfl
@[simp] theorem e_mAppX (i : Nat) (m : En → Res (D × En)) (env : En) : mAppX i m env = appC i m env env[i]? := ir rfl
def setItO (i : Nat) (xs : List D) (d : D) (env : En) : Option Nat → SR
  | some j => .nx (env.set i (.ow (.lst (xs.set j d))))
  | none => .stuck
@[simp] theorem setItO_some (i : Nat) (xs : List D) (d : D) (env : En) (j : Nat) : setItO i xs d env (some j) = .nx (env.set i (.ow (.lst (xs.set j d)))) := ir rfl
def setItK (i : Nat) (xs : List D) (d : D) (env : En) : D → SR
  | .int k => setItO i xs d env (ixN xs.length k)
  | _ => .stuck
@[simp] theorem setItK_int (i : Nat) (xs : List D) (d : D) (env : En) (k : Int) : setItK i xs d env (.int k) = setItO i xs d env (ixN xs.length k) := ir rfl
def setItC (i : Nat) (mk : En → Res D) (d : D) (env : En) : Option Cl → SR
  | some (.ow (.lst xs)) => resS (mk env) (fun k env => setItK i xs d env k) env
  | _ => .stuck
@[simp] theorem setItC_ow (i : Nat) (mk : En → Res D) (d : D) (env : En) (xs : List D) : setItC i mk d env (some (.ow (.lst xs))) = resS (mk env) (fun k env => setItK i xs d env k) env := ir rfl
@[simp] theorem e_mSetIt (i : Nat) (mv mk : En → Res D) (env : En) : mSetIt i mv mk env = resS (mv env) (fun d env => setItC i mk d env env[i]?) env := ir rfl
def fldS (i : Nat) (cs : List Str) (f : Str) (d : D) (env : En) : Option Cl → SR
  | some (.ow (.ins c fn fv)) => if cs.contains c && Nat.blt fn.length 1000 then .nx (env.set i (.ow (.ins c (putN f fn) (putD f d fn fv)))) else .stuck
  | _ => .stuck
@[simp] theorem fldS_ow (i : Nat) (cs : List Str) (f : Str) (d : D) (env : En) (c fn fv) : fldS i cs f d env (some (.ow (.ins c fn fv))) = if cs.contains c && Nat.blt fn.length 1000 then .nx (env.set i (.ow (.ins c (putN f fn) (putD f d fn fv)))) else .stuck := ir rfl
@[simp] theorem e_mSetFld (i : Nat) (cs : List Str) (f : Str) (m : En → Res D) (env : En) : mSetFld i cs f m env = resS (m env) (fun d env => fldS i cs f d env env[i]?) env := ir rfl
def fldC (cs : List Str) (f : Str) : Option Cl → Res D
  | some (.ow (.ins c fn fv)) => if cs.contains c then ofO (lookD f fn fv) else .stuck
  | some (.sh d) => ofO (fldD cs f d)
  | _ => .stuck
@[simp] theorem fldC_ow (cs : List Str) (f : Str) (c fn fv) : fldC cs f (some (.ow (.ins c fn fv))) = if cs.contains c then ofO (lookD f fn fv) else .stuck := ir rfl
@[simp] theorem fldC_sh (cs : List Str) (f : Str) (d : D) : fldC cs f (some (.sh d)) = ofO (fldD cs f d) := ir rfl
@[simp] theorem e_mFldOw (i : Nat) (cs : List Str) (f : Str) (env : En) : mFldOw i cs f env = fldC cs f env[i]? := ir rfl
/-! iterables -/
@[simp] theorem e_mSeqI (m : En → Res D) (f : D → En → Option En) (env : En) : mSeqI m f env = (m env).bind fun d => (itemsD d).bind fun xs => .ok (xs.map f) := ir rfl
@[simp] theorem e_itL (xs : List D) : itemsD (.lst xs) = .ok xs := ir rfl
@[simp] theorem e_itT (xs : List D) : itemsD (.tup xs) = .ok xs := ir rfl
@[simp] theorem e_itS (xs : List Int) : itemsD (.scr xs) = .ok (xs.map .int) := ir rfl
@[simp] theorem e_mRng1 (m : En → Res D) (f : D → En → Option En) (env : En) : mRng1 m f env = (m env).bind fun d => (rngD (.int 0) d).bind fun xs => .ok (xs.map f) := ir rfl
theorem rng_nat (n : Nat) : rng 0 (n : Int) = (List.range n).map fun i : Nat => .int (i : Int) := by
  unfold rng
  simp
@[simp] theorem e_rng (n : Nat) (h : n < 4611686018427387904) : rngD (.int 0) (.int (n : Int)) = .ok ((List.range n).map fun i : Nat => .int (i : Int)) := by
  show (if rngB 0 (n : Int) = true then Res.ok (rng 0 (n : Int)) else Res.stuck) = _
  have : rngB 0 (n : Int) = true := by unfold rngB; simp; omega
  rw [this, rng_nat]; rfl
@[simp] theorem e_rgL (n : Nat) (h : n ≤ 16777216) : rgL (.int 0) (.int (n : Int)) = some ((List.range n).map fun i : Nat => .int (i : Int)) := by
  show (if rgOk 0 (n : Int) = true then some (rng 0 (n : Int)) else none) = _
  have : rgOk 0 (n : Int) = true := by unfold rgOk; simp; omega
  rw [this, rng_nat]; rfl
@[simp] theorem e_mComp (mi : En → Res (List (En → Option En))) (vs : List Nat) (mt : En → Res Bool) (me : En → Res D) (env : En) : mComp mi vs mt me env = (mi env).bind fun bs => if szB bs.length then compL mt me (wipeE env vs) bs else .stuck := ir rfl
@[simp] theorem e_wipe0 (env : En) : wipeE env [] = env := ir rfl
@[simp] theorem e_wipe1 (env : En) (v : Nat) (vs : List Nat) : wipeE env (v :: vs) = (wipeE env vs).set v .un := ir rfl
@[simp] theorem e_tgName (i : Nat) (d : D) (env : En) : tgName i d env = some (env.set i (.sh d)) := ir rfl
/-! values -/
@[simp] theorem e_szB (n : Nat) (h : n ≤ 16777216) : szB n = true := Nat.ble_eq_true_of_le h
@[simp] theorem e_lenL (xs : List D) : lenD (.lst xs) = .ok (.int xs.length) := ir rfl
@[simp] theorem e_lenT (xs : List D) : lenD (.tup xs) = .ok (.int xs.length) := ir rfl
@[simp] theorem e_lenS (xs : List Int) : lenD (.scr xs) = .ok (.int xs.length) := ir rfl
@[simp] theorem e_int (i : Int) : intD (.int i) = .ok (.int i) := ir rfl
@[simp] theorem e_intB (b : Bool) : intD (.bl b) = .ok (.int (if b then 1 else 0)) := ir rfl
@[simp] theorem e_listL (xs : List D) : listL (.lst xs) = .ok xs := ir rfl
@[simp] theorem e_listT (xs : List D) : listL (.tup xs) = .ok xs := ir rfl
@[simp] theorem e_tupL (xs : List D) : tupleD (.lst xs) = .ok (.tup xs) := ir rfl
@[simp] theorem e_tupT (xs : List D) : tupleD (.tup xs) = .ok (.tup xs) := ir rfl
@[simp] theorem e_add (i j : Int) : addD (.int i) (.int j) = some (.int (i + j)) := ir rfl
@[simp] theorem e_sub (i j : Int) : subD (.int i) (.int j) = some (.int (i - j)) := ir rfl
@[simp] theorem e_neg (i : Int) : negD (.int i) = some (.int (-i)) := ir rfl
@[simp] theorem e_lt (i j : Int) : ltX (.int i) (.int j) = some (.bl (decide (i < j))) := ir rfl
@[simp] theorem e_le (i j : Int) : leX (.int i) (.int j) = some (.bl (decide (i ≤ j))) := ir rfl
@[simp] theorem e_gt (i j : Int) : gtX (.int i) (.int j) = some (.bl (decide (j < i))) := ir rfl
@[simp] theorem e_ge (i j : Int) : geX (.int i) (.int j) = some (.bl (decide (j ≤ i))) := ir rfl
@[simp] theorem e_min (i j : Int) : min2D (.int i) (.int j) = some (.int (if j < i then j else i)) := ir rfl
@[simp] theorem e_max (i j : Int) : max2D (.int i) (.int j) = some (.int (if j > i then j else i)) := ir rfl
theorem e_mod (i j : Int) (h : 0 < j) : modD (.int i) (.int j) = some (.int (i % j)) := by
  show (if modB i j then some (D.int (i % j)) else none) = _
  have : modB i j = true := decide_eq_true h
  rw [this]; rfl
theorem bits_le {i : Int} {n : Nat} (h : i.natAbs < 2 ^ n) : bits i ≤ n := by
  unfold bits
  by_cases h0 : i.natAbs = 0
  · rw [h0]; simp
  · exact Nat.le_of_lt ((Nat.log2_lt h0).mpr h)
theorem e_mul (i j : Int) (n m : Nat) (h1 : i.natAbs < 2 ^ n) (h2 : j.natAbs < 2 ^ m) (h : n + m ≤ 900000) : mulD (.int i) (.int j) = some (.int (i * j)) := by
  show (if mulB i j then some (D.int (i * j)) else none) = _
  have a := bits_le h1
  have b := bits_le h2
  have : mulB i j = true := Nat.ble_eq_true_of_le (by omega)
  rw [this]; rfl
theorem e_div (i j : Int) (h : 0 < j) (h2 : j.natAbs < 2 ^ 64) : fdivD (.int i) (.int j) = some (.int (i / j)) := by
  show (if divB i j then some (D.int (i / j)) else none) = _
  have a := bits_le h2
  have : divB i j = true := Bool.and_eq_true_iff.mpr ⟨decide_eq_true h, Nat.ble_eq_true_of_le (by omega)⟩
  rw [this]; rfl

/-! ### loops -/
theorem loop_at {body : En → SR} {bs : List (En → Option En)} {env0 : En} {r : SR} (hr : loopM body bs env0 = r) (I : Nat → En → Prop) (h0 : I 0 env0)
    (step : ∀ k env (hk : k < bs.length), I k env → ∃ e1 e2, bs[k] env = some e1 ∧ body e1 = .nx e2 ∧ I (k + 1) e2) : ∃ e, r = .nx e ∧ I bs.length e := by
  subst hr
  suffices h : ∀ (m k : Nat) env, m = bs.length - k → k ≤ bs.length → I k env → ∃ e, loopM body (bs.drop k) env = .nx e ∧ I bs.length e by
    have z := h bs.length 0 env0 (by omega) (by omega) h0
    rwa [List.drop_zero] at z
  intro m
  induction m with
  | zero =>
    intro k env hm hk hi
    have e : k = bs.length := by omega
    subst e
    refine ⟨env, ?_, hi⟩
    rw [List.drop_length]
    rfl
  | succ m ih =>
    intro k env hm hk hi
    have hlt : k < bs.length := by omega
    rw [List.drop_eq_getElem_cons hlt]
    obtain ⟨e1, e2, h1, h2, h3⟩ := step k env hlt hi
    unfold loopM
    rw [h1]
    simp only [h2]
    exact ih (k + 1) e2 (by omega) hlt h3
theorem comp_at {mt : En → Res Bool} {me : En → Res D} {env : En} {bs : List (En → Option En)} {r : Res (List D)} (hr : compL mt me env bs = r) (p : Nat → Bool) (g : Nat → D)
    (h : ∀ k (hk : k < bs.length), ∃ e1, bs[k] env = some e1 ∧ mt e1 = .ok (p k) ∧ (p k = true → me e1 = .ok (g k))) : r = .ok (((List.range bs.length).filter p).map g) := by
  subst hr
  suffices q : ∀ (m k : Nat), m = bs.length - k → k ≤ bs.length → compL mt me env (bs.drop k) = .ok (((List.range' k (bs.length - k)).filter p).map g) by
    have z := q bs.length 0 (by omega) (by omega)
    rw [List.drop_zero] at z
    rw [z, List.range_eq_range']
    rfl
  intro m
  induction m with
  | zero =>
    intro k hm hk
    have e : k = bs.length := by omega
    subst e
    rw [List.drop_length]
    simp [compL]
  | succ m ih =>
    intro k hm hk
    have hlt : k < bs.length := by omega
    rw [List.drop_eq_getElem_cons hlt]
    obtain ⟨e1, h1, h2, h3⟩ := h k hlt
    have e : bs.length - k = (bs.length - (k + 1)) + 1 := by omega
    unfold compL
    rw [h1]
    simp only [h2]
    rw [ih (k + 1) (by omega) hlt, e, List.range'_succ]
    cases hp : p k with
    | false => simp [hp]
    | true => simp [hp, h3 hp]
/-- over a list of things that stand for typed ones -/
theorem comp_map {α : Type} {mt : En → Res Bool} {me : En → Res D} {env : En} {bs : List (En → Option En)} {r : Res (List D)} (hr : compL mt me env bs = r) (xs : List α) (b : α → En → Option En) (p : α → Bool) (g : α → D) (hb : bs = xs.map b)
    (h : ∀ x ∈ xs, ∃ e1, b x env = some e1 ∧ mt e1 = .ok (p x) ∧ (p x = true → me e1 = .ok (g x))) : r = .ok ((xs.filter p).map g) := by
  subst hr hb
  induction xs with
  | nil => rfl
  | cons x xs ih =>
    obtain ⟨e1, h1, h2, h3⟩ := h x List.mem_cons_self
    have i := ih fun y hy => h y (List.mem_cons_of_mem _ hy)
    simp only [List.map_cons]
    unfold compL
    rw [h1]
    simp only [h2, i]
    cases hp : p x with
    | false => simp [hp]
    | true => simp [hp, h3 hp]
theorem comp_all {α : Type} {mt : En → Res Bool} {me : En → Res D} {env : En} {bs : List (En → Option En)} {r : Res (List D)} (hr : compL mt me env bs = r) (xs : List α) (b : α → En → Option En) (g : α → D) (hb : bs = xs.map b)
    (h : ∀ x ∈ xs, ∃ e1, b x env = some e1 ∧ mt e1 = .ok true ∧ me e1 = .ok (g x)) : r = .ok (xs.map g) := by
  have z := comp_map hr xs b (fun _ => true) g hb fun x hx => by
    obtain ⟨e1, h1, h2, h3⟩ := h x hx
    exact ⟨e1, h1, h2, fun _ => h3⟩
  rw [z, List.filter_eq_self.mpr fun _ _ => rfl]

theorem atI_natE {α : Type} (xs : List α) (k : Nat) : atI xs (k : Int) = xs[k]? := by
  unfold atI ixN
  rw [if_pos (by omega)]
  by_cases h : (k : Int) < (xs.length : Int)
  · rw [if_pos h]; rfl
  · rw [if_neg h]
    rw [List.getElem?_eq_none (by omega)]
    rfl
theorem atI_0 {α : Type} (xs : List α) : atI xs 0 = xs[0]? := atI_natE xs 0
theorem atI_1 {α : Type} (xs : List α) : atI xs 1 = xs[1]? := atI_natE xs 1

theorem natAbs_mul_lt {a b : Int} {n m : Nat} (h1 : a.natAbs < 2 ^ n) (h2 : b.natAbs < 2 ^ m) : (a * b).natAbs < 2 ^ (n + m) := by
  rw [Int.natAbs_mul, Nat.pow_add]
  exact Nat.mul_lt_mul'' h1 h2
structure Dg (sizes row : List Int) : Prop where
  len : row.length = sizes.length
  dig : ∀ (i : Nat) (d : Int), row[i]? = some d → ∃ s, sizes[i]? = some s ∧ 0 ≤ d ∧ d < s
theorem Dg.push {sizes row : List Int} {k : Nat} (hl : row.length = k) (h : ∀ (i : Nat) (d : Int), row[i]? = some d → ∃ s, sizes[i]? = some s ∧ 0 ≤ d ∧ d < s) {d s : Int} (hs : sizes[k]? = some s) (h1 : 0 ≤ d) (h2 : d < s) :
    ∀ (i : Nat) (e : Int), (row ++ [d])[i]? = some e → ∃ s, sizes[i]? = some s ∧ 0 ≤ e ∧ e < s := by
  intro i e hi
  by_cases q : i < row.length
  · rw [List.getElem?_append_left q] at hi
    exact h i e hi
  · rw [List.getElem?_append_right (by omega)] at hi
    by_cases q2 : i = k
    · subst q2
      rw [← hl, Nat.sub_self] at hi
      simp at hi
      subst hi
      exact ⟨s, hs, h1, h2⟩
    · rw [List.getElem?_eq_none (by simp; omega)] at hi
      cases hi
theorem e_pow1018 : powD (.int 10) (.int 18) = some (.int (10 ^ 18)) := rfl
theorem e_app (xs : List D) (d : D) (h : xs.length < 16777216) : appG xs [d] = some (xs ++ [d]) := by
  show (if szB (xs.length + 1) = true then some (xs ++ [d]) else none) = _
  rw [e_szB _ (by omega)]; rfl

theorem e_pop (xs : List D) (j : Nat) (h : j < xs.length) (h2 : xs.length ≤ 10000) : popG xs [.int (j : Int)] = some (xs[j], xs.eraseIdx j) := by
  have e1 : decide (-(2 ^ 63 : Int) ≤ (j : Int) ∧ (j : Int) < 2 ^ 63) = true := decide_eq_true ⟨by omega, by omega⟩
  have e2 : seqIndex? (j : Int) xs.length = some j := by
    unfold seqIndex?
    simp only [show ¬ ((j : Int) < 0) by omega, if_false]
    rw [if_pos (by simp; omega)]
    rfl
  unfold popG
  simp only [e1, e2, if_true]
  rw [List.getElem?_eq_getElem h]
  rfl
abbrev dN (p : List Nat) : List D := p.map fun i : Nat => D.int (i : Int)
theorem loop_for {α : Type} {body : En → SR} {bs : List (En → Option En)} {env0 : En} {r : SR} (hr : loopM body bs env0 = r) (xs : List α) (enc : α → D) (i : Nat) (hb : bs = xs.map fun x => tgName i (enc x)) (I : Nat → En → Prop) (h0 : I 0 env0)
    (step : ∀ k env (hk : k < xs.length), I k env → ∃ e2, body (env.set i (.sh (enc xs[k]))) = .nx e2 ∧ I (k + 1) e2) : ∃ e, r = .nx e ∧ I xs.length e := by
  subst hb
  have z := loop_at hr I h0 fun k env hk hi => by
    have hk' : k < xs.length := by simpa using hk
    obtain ⟨e2, h1, h2⟩ := step k env hk' hi
    exact ⟨_, e2, by simp only [List.getElem_map]; rfl, h1, h2⟩
  simpa using z
theorem erase_map {α β : Type} (f : α → β) : ∀ (l : List α) (q : Nat), (l.map f).eraseIdx q = (l.eraseIdx q).map f
  | [], _ => by simp
  | a :: l, 0 => rfl
  | a :: l, q + 1 => by simp [erase_map f l q]
theorem perm_erase {α : Type} : ∀ (l : List α) (q : Nat) (h : q < l.length), (l[q] :: l.eraseIdx q).Perm l
  | a :: l, 0, _ => List.Perm.refl _
  | a :: l, q + 1, h => by
    have z := perm_erase l q (by simpa using h)
    simp only [List.getElem_cons_succ, List.eraseIdx_cons_succ]
    exact (List.Perm.swap _ _ _).trans (z.cons a)
theorem len_erase {α : Type} (l : List α) (q : Nat) (h : q < l.length) : (l.eraseIdx q).length + 1 = l.length := by
  have := (perm_erase l q h).length_eq
  simpa using this

theorem bd {α : Type} [BEq α] [LawfulBEq α] [DecidableEq α] (a b : α) : (a == b) = decide (a = b) := by
  by_cases h : a = b
  · subst h; simp
  · simp [h]
/-- the first place -/
def ix {α : Type} [DecidableEq α] (a : α) : List α → Nat
  | [] => 0
  | b :: xs => if b = a then 0 else ix a xs + 1
section
variable {α : Type} [DecidableEq α] {a : α}
theorem ix_lt : ∀ {xs : List α}, a ∈ xs → ix a xs < xs.length
  | [], h => by cases h
  | b :: xs, h => by
    unfold ix
    by_cases e : b = a
    · simp [e]
    · have := ix_lt (xs := xs) ((List.mem_cons.mp h).resolve_left fun q => e q.symm)
      simp [e]; omega
theorem ix_get : ∀ {xs : List α}, a ∈ xs → xs[ix a xs]? = some a
  | [], h => by cases h
  | b :: xs, h => by
    unfold ix
    by_cases e : b = a
    · simp [e]
    · have := ix_get (xs := xs) ((List.mem_cons.mp h).resolve_left fun q => e q.symm)
      simpa [e] using this
theorem ix_min : ∀ {xs : List α} {k : Nat}, k < ix a xs → xs[k]? ≠ some a
  | [], k, h => by simp
  | b :: xs, k, h => by
    unfold ix at h
    by_cases e : b = a
    · simp [e] at h
    · rw [if_neg e] at h
      cases k with
      | zero => simpa using e
      | succ k =>
        have := ix_min (xs := xs) (k := k) (by omega)
        simpa using this
theorem ix_of {xs : List α} {k : Nat} (h : xs[k]? = some a) (hm : ∀ j, j < k → xs[j]? ≠ some a) : ix a xs = k := by
  have h1 : a ∈ xs := List.mem_of_getElem? h
  have h2 := ix_get h1
  rcases Nat.lt_trichotomy (ix a xs) k with q | q | q
  · exact absurd h2 (hm _ q)
  · exact q
  · exact absurd h (ix_min q)
end
/-! ### typed data -/
structure Good {α : Type} [DecidableEq α] (enc : α → D) (P : α → Prop) where
  pd : α → PyData
  dat : ∀ a, Sm.dat (enc a) = some (pd a)
  lay : ∀ a, P a → (pd a).canLay0 = true
  dep : ∀ a, (pd a).depth ≤ 8
  eqv : ∀ a b, PyData.eqv (pd a) (pd b) = decide (a = b)
section
variable {α : Type} [DecidableEq α] {enc : α → D} {P : α → Prop} (G : Good enc P)
include G
theorem Good.shaped {a : α} (h : P a) : SeqAt.shaped (G.pd a) = true := by
  unfold SeqAt.shaped
  rw [G.lay a h]
  have := G.dep a
  simp
  omega
theorem Good.dats : ∀ xs : List α, Sm.dats (xs.map enc) = some (xs.map G.pd)
  | [] => rfl
  | a :: xs => by
    simp only [List.map_cons, Sm.dats, G.dat a, Good.dats xs]
theorem Good.layAll : ∀ xs : List α, (∀ a ∈ xs, P a) → PyData.canLayAll0 (xs.map G.pd) = true
  | [], _ => rfl
  | a :: xs, h => by
    simp only [List.map_cons, PyData.canLayAll0, G.lay a (h a List.mem_cons_self), Good.layAll xs fun b hb => h b (List.mem_cons_of_mem _ hb)]
    rfl
theorem Good.depAll : ∀ xs : List α, PyData.depthAll (xs.map G.pd) ≤ 8
  | [] => by simp [PyData.depthAll]
  | a :: xs => by
    have h1 := G.dep a
    have h2 := Good.depAll xs
    simp only [List.map_cons, PyData.depthAll]
    omega
theorem Good.shapedL {xs : List α} (h : ∀ a ∈ xs, P a) : SeqAt.shaped (.list (xs.map G.pd)) = true := by
  unfold SeqAt.shaped
  have := G.depAll xs
  simp only [PyData.canLay0, G.layAll xs h, PyData.depth, Bool.true_and]
  exact decide_eq_true (by omega)
theorem Good.shapedT {xs : List α} (h : ∀ a ∈ xs, P a) : SeqAt.shaped (.tuple (xs.map G.pd)) = true := by
  unfold SeqAt.shaped
  have := G.depAll xs
  simp only [PyData.canLay0, G.layAll xs h, PyData.depth, Bool.true_and]
  exact decide_eq_true (by omega)
theorem Good.eqB {a b : α} (ha : P a) (hb : P b) : Sm.eqB (enc a) (enc b) = some (decide (a = b)) := by
  unfold Sm.eqB
  simp only [G.dat, G.shaped ha, G.shaped hb, G.eqv]
  rfl
theorem Good.eqD {a b : α} (ha : P a) (hb : P b) : Sm.eqD (enc a) (enc b) = some (.bl (decide (a = b))) := by
  unfold Sm.eqD
  rw [G.eqB ha hb]; rfl
theorem Good.neD {a b : α} (ha : P a) (hb : P b) : Sm.neD (enc a) (enc b) = some (.bl (!decide (a = b))) := by
  unfold Sm.neD
  rw [G.eqB ha hb]; rfl
theorem Good.any (a : α) : ∀ xs : List α, ((xs.map G.pd).any fun z => PyData.eqv z (G.pd a)) = decide (a ∈ xs)
  | [] => by simp
  | b :: xs => by
    simp only [List.map_cons, List.any_cons, Good.any a xs, G.eqv]
    by_cases h : b = a
    · subst h; simp
    · have : a ≠ b := fun e => h e.symm
      simp [h, this]
theorem Good.inB {a : α} {xs : List α} (ha : P a) (h : ∀ b ∈ xs, P b) : Sm.inB (enc a) (.lst (xs.map enc)) = some (decide (a ∈ xs)) := by
  unfold Sm.inB
  simp only [G.dat, Sm.dat, G.dats xs, Option.map_some, G.shaped ha, G.shapedL h, Bool.and_self, if_true, G.any]
theorem Good.inTB {a : α} {xs : List α} (ha : P a) (h : ∀ b ∈ xs, P b) : Sm.inTB (enc a) (.tup (xs.map enc)) = some (decide (a ∈ xs)) := by
  unfold Sm.inTB
  simp only [G.dat, Sm.dat, G.dats xs, Option.map_some, G.shaped ha, G.shapedT h, Bool.and_self, if_true, G.any]
theorem Good.firstEq (a : α) : ∀ xs : List α, a ∈ xs → Sm.firstEq (xs.map G.pd) (G.pd a) = some (ix a xs)
  | [], h => by cases h
  | b :: xs, h => by
    unfold Sm.firstEq
    rw [List.map_cons, List.findIdx?_cons, G.eqv]
    by_cases e : b = a
    · subst e; simp [ix]
    · have h2 : a ∈ xs := (List.mem_cons.mp h).resolve_left fun q => e q.symm
      have ih := Good.firstEq a xs h2
      unfold Sm.firstEq at ih
      rw [ih]
      simp [ix, e]
theorem Good.index {a : α} {xs : List α} (ha : P a) (h : ∀ b ∈ xs, P b) (hm : a ∈ xs) : indexD (.lst (xs.map enc)) [enc a] = some (.int ((ix a xs : Nat) : Int)) := by
  unfold indexD lstDat oneDat
  simp only [G.dat, Sm.dat, G.dats xs, Option.map_some, G.shaped ha, G.shapedL h, if_true, G.firstEq a xs hm]
theorem Good.remove {a : α} {xs : List α} (ha : P a) (h : ∀ b ∈ xs, P b) (hm : a ∈ xs) : remG (xs.map enc) [enc a] = some ((xs.eraseIdx (ix a xs)).map enc) := by
  unfold remG oneDat
  simp only [G.dats xs, G.dat, G.shaped ha, if_true, G.shapedL h, G.firstEq a xs hm, Option.map_some, erase_map]
end
/-! texts -/
abbrev sOk (x : Str) : Prop := PyData.strOk x = true
def gS : Good D.str sOk where
  pd := .str
  dat := fun _ => rfl
  lay := fun a h => h
  dep := fun a => Nat.zero_le _
  eqv := fun a b => by
    simp only [PyData.eqv]
    exact bd a b
def gI : Good D.int (fun _ => True) where
  pd := .int
  dat := fun _ => rfl
  lay := fun a h => rfl
  dep := fun a => Nat.zero_le _
  eqv := fun a b => by
    simp only [PyData.eqv]
    exact bd a b
def gB : Good D.bl (fun _ => True) where
  pd := .bool
  dat := fun _ => rfl
  lay := fun a h => rfl
  dep := fun a => Nat.zero_le _
  eqv := fun a b => by
    simp only [PyData.eqv]
    exact bd a b
abbrev dS (xs : List Str) : List D := xs.map .str
abbrev dI (xs : List Int) : List D := xs.map .int
def wd (b : Bool) : Str := if b then "in" else "out"
theorem wd_ok (b : Bool) : sOk (wd b) := by cases b <;> decide +kernel
theorem wd_eq (b c : Bool) : decide (wd b = wd c) = decide (b = c) := by cases b <;> cases c <;> decide +kernel
/-- events -/
abbrev Ev := Bool × Str
def eE (e : Ev) : D := .tup [.str (wd e.1), .str e.2]
def gE : Good eE (fun e => sOk e.2) where
  pd := fun e => .tuple [.str (wd e.1), .str e.2]
  dat := fun _ => rfl
  lay := fun a h => by
    simp only [PyData.canLay0, PyData.canLayAll0, Bool.and_true, Bool.and_eq_true]
    exact ⟨wd_ok _, h⟩
  dep := fun a => by simp [PyData.depth, PyData.depthAll]
  eqv := fun a b => by
    obtain ⟨a1, a2⟩ := a
    obtain ⟨b1, b2⟩ := b
    simp only [PyData.eqv, PyData.eqvAll, Bool.and_true, bd, wd_eq, Prod.mk.injEq, Bool.decide_and]
/-- steps -/
inductive St where
  | inn (g : Str) | out (g c : Str)
  deriving DecidableEq, Inhabited
def eT : St → D
  | .inn g => .tup [.str "in", .str g]
  | .out g c => .tup [.str "out", .str g, .str c]
def St.ok : St → Prop
  | .inn g => sOk g
  | .out g c => sOk g ∧ sOk c
def gT : Good eT St.ok where
  pd := fun s => match s with
    | .inn g => .tuple [.str "in", .str g]
    | .out g c => .tuple [.str "out", .str g, .str c]
  dat := fun s => by cases s <;> rfl
  lay := fun a h => by
    cases a with
    | inn g =>
      simp only [PyData.canLay0, PyData.canLayAll0, Bool.and_true, Bool.and_eq_true]
      exact ⟨by decide +kernel, h⟩
    | out g c =>
      simp only [PyData.canLay0, PyData.canLayAll0, Bool.and_true, Bool.and_eq_true]
      exact ⟨by decide +kernel, h.1, h.2⟩
  dep := fun a => by cases a <;> simp [PyData.depth, PyData.depthAll]
  eqv := fun a b => by
    cases a <;> cases b <;> simp [PyData.eqv, PyData.eqvAll]
    · exact bd _ _
    · rw [bd, bd]
/-! in, flat -/
theorem fvs_str : ∀ xs : List Str, fvs (dS xs) = some (xs.map V.str)
  | [] => rfl
  | x :: xs => by
    have := fvs_str xs
    simp only [List.map_cons, fvs, fv, this]
theorem inV_str (a : Str) : ∀ xs : List Str, inV (.str a) (xs.map V.str) = decide (a ∈ xs)
  | [] => by simp [inV]
  | b :: xs => by
    have ih := inV_str a xs
    unfold inV at ih ⊢
    have e1 : eqV (.str b) (.str a) = decide (b = a) := bd b a
    simp only [List.map_cons, List.any_cons, ih, e1]
    by_cases h : b = a
    · subst h; simp
    · have : a ≠ b := fun e => h e.symm
      simp [h, this]
@[simp] theorem in_strL (a : Str) (xs : List Str) : inY (.str a) (.lst (dS xs)) = some (.bl (decide (a ∈ xs))) := by
  have h : inXB (.str a) (.lst (dS xs)) = some (decide (a ∈ xs)) := by
    show inFL (.str a) (dS xs) = _
    unfold inFL
    simp only [fv, fvs_str, inV_str]
  unfold inY inYB
  rw [h]; rfl
@[simp] theorem in_strT (a : Str) (xs : List Str) : inY (.str a) (.tup (dS xs)) = some (.bl (decide (a ∈ xs))) := by
  have h : inXB (.str a) (.tup (dS xs)) = some (decide (a ∈ xs)) := by
    show inFL (.str a) (dS xs) = _
    unfold inFL
    simp only [fv, fvs_str, inV_str]
  unfold inY inYB
  rw [h]; rfl
@[simp] theorem ni_strL (a : Str) (xs : List Str) : niY (.str a) (.lst (dS xs)) = some (.bl (!decide (a ∈ xs))) := by
  have h : inXB (.str a) (.lst (dS xs)) = some (decide (a ∈ xs)) := by
    show inFL (.str a) (dS xs) = _
    unfold inFL
    simp only [fv, fvs_str, inV_str]
  unfold niY inYB
  rw [h]; rfl
theorem in_evL {e : Ev} {xs : List Ev} (ha : sOk e.2) (h : ∀ b ∈ xs, sOk b.2) : inY (eE e) (.lst (xs.map eE)) = some (.bl (decide (e ∈ xs))) := by
  have h1 : inXB (eE e) (.lst (xs.map eE)) = none := by
    show inFL (eE e) (xs.map eE) = none
    rfl
  unfold inY inYB
  rw [h1, gE.inB ha h]; simp
theorem in_stT {e : St} {xs : List St} (ha : e.ok) (h : ∀ b ∈ xs, b.ok) : inY (eT e) (.tup (xs.map eT)) = some (.bl (decide (e ∈ xs))) := by
  have h1 : inXB (eT e) (.tup (xs.map eT)) = none := by cases e <;> rfl
  have h2 : Sm.inB (eT e) (.tup (xs.map eT)) = none := by
    unfold Sm.inB
    simp only [gT.dat, Sm.dat, gT.dats xs, Option.map_some]
  unfold inY inYB
  rw [h1, h2, gT.inTB ha h]; simp

/-! ### slices -/
theorem cut_take (xs : List D) (k : Nat) : cutD xs none (some (k : Int)) = xs.take k := by
  unfold cutD
  rw [HT.sIx_none, HT.sIx_nat, List.drop_zero, Nat.sub_zero]
  by_cases h : k ≤ xs.length
  · rw [Nat.min_eq_left h]
  · rw [Nat.min_eq_right (by omega), List.take_length, List.take_of_length_le (by omega)]
theorem cut_drop (xs : List D) (k : Nat) : cutD xs (some (k : Int)) none = xs.drop k := by
  unfold cutD
  rw [HT.sIx_none, HT.sIx_nat]
  by_cases h : k ≤ xs.length
  · rw [Nat.min_eq_left h, List.take_of_length_le (by simp)]
  · rw [Nat.min_eq_right (by omega), List.drop_length, List.take_nil, List.drop_of_length_le (by omega)]
theorem cut_mid (xs : List D) (k m : Nat) : cutD xs (some (k : Int)) (some (m : Int)) = (xs.drop k).take (m - k) := by
  unfold cutD
  rw [HT.sIx_nat, HT.sIx_nat]
  apply List.ext_getElem?
  intro i
  rw [List.getElem?_take, List.getElem?_take, List.getElem?_drop, List.getElem?_drop]
  by_cases h1 : k ≤ xs.length
  · rw [Nat.min_eq_left h1]
    by_cases h2 : m ≤ xs.length
    · rw [Nat.min_eq_left h2]
    · rw [Nat.min_eq_right (a := m) (by omega)]
      by_cases h3 : i < m - k
      · rw [if_pos h3]
        by_cases h4 : i < xs.length - k
        · rw [if_pos h4]
        · rw [if_neg h4, List.getElem?_eq_none (by omega)]
      · rw [if_neg h3, if_neg (by omega)]
  · rw [Nat.min_eq_right (a := k) (by omega), List.getElem?_eq_none (by omega), List.getElem?_eq_none (by omega)]
    simp
theorem sl_takeT (xs : List D) (k : Nat) : slD (.tup xs) none (some (k : Int)) = .ok (.tup (xs.take k)) := by
  show Res.ok (D.tup (cutD xs none (some (k : Int)))) = _
  rw [cut_take]
theorem sl_dropT (xs : List D) (k : Nat) : slD (.tup xs) (some (k : Int)) none = .ok (.tup (xs.drop k)) := by
  show Res.ok (D.tup (cutD xs (some (k : Int)) none)) = _
  rw [cut_drop]
theorem sl_takeL (xs : List D) (k : Nat) : slL (.lst xs) none (some (k : Int)) = .ok (xs.take k) := by
  show Res.ok (cutD xs none (some (k : Int))) = _
  rw [cut_take]
theorem sl_dropL (xs : List D) (k : Nat) : slL (.lst xs) (some (k : Int)) none = .ok (xs.drop k) := by
  show Res.ok (cutD xs (some (k : Int)) none) = _
  rw [cut_drop]
theorem sl_midL (xs : List D) (k m : Nat) : slL (.lst xs) (some (k : Int)) (some (m : Int)) = .ok ((xs.drop k).take (m - k)) := by
  show Res.ok (cutD xs (some (k : Int)) (some (m : Int))) = _
  rw [cut_mid]
@[simp] theorem sl_t2 (xs : List D) : slD (.tup xs) none (some 2) = .ok (.tup (xs.take 2)) := sl_takeT xs 2
@[simp] theorem sl_d1 (xs : List D) : slD (.tup xs) (some 1) none = .ok (.tup (xs.drop 1)) := sl_dropT xs 1
@[simp] theorem sl_d3 (xs : List D) : slD (.tup xs) (some 3) none = .ok (.tup (xs.drop 3)) := sl_dropT xs 3
/-! items -/
@[simp] theorem ix_L (xs : List D) (k : Nat) : ixD (.lst xs) (.int (k : Int)) = xs[k]? := atI_natE xs k
@[simp] theorem ix_T (xs : List D) (k : Nat) : ixD (.tup xs) (.int (k : Int)) = xs[k]? := atI_natE xs k
@[simp] theorem ix_L0 (xs : List D) : ixD (.lst xs) (.int 0) = xs[0]? := atI_natE xs 0
@[simp] theorem ix_L1 (xs : List D) : ixD (.lst xs) (.int 1) = xs[1]? := atI_natE xs 1
@[simp] theorem ix_L2 (xs : List D) : ixD (.lst xs) (.int 2) = xs[2]? := atI_natE xs 2
@[simp] theorem ix_L3 (xs : List D) : ixD (.lst xs) (.int 3) = xs[3]? := atI_natE xs 3
@[simp] theorem ix_L4 (xs : List D) : ixD (.lst xs) (.int 4) = xs[4]? := atI_natE xs 4
@[simp] theorem ix_T0 (xs : List D) : ixD (.tup xs) (.int 0) = xs[0]? := atI_natE xs 0
@[simp] theorem ix_T1 (xs : List D) : ixD (.tup xs) (.int 1) = xs[1]? := atI_natE xs 1
@[simp] theorem ix_T2 (xs : List D) : ixD (.tup xs) (.int 2) = xs[2]? := atI_natE xs 2
@[simp] theorem ix_T3 (xs : List D) : ixD (.tup xs) (.int 3) = xs[3]? := atI_natE xs 3

end Pl

set_option autoImplicit true
set_option Elab.async false
set_option linter.all false
set_option maxRecDepth 100000
set_option maxHeartbeats 2000000
/-! Plain facts about mirrors, more. -/
namespace Pl
open PySem Sm L2
/-! ### defs that make -/
theorem e_runI (c : Str) (n np : Nat) (m : En → SR) (ds : List D) (env' : En) (o : Ob) (h0 : ds.length + 1 = np) (h : m (envI c n ds) = .nx env') (h2 : env'[0]? = some (.ow o)) : runI c n np m ds = .ok o := by
  unfold runI
  rw [if_pos h0, h]
  simp only [h2]
  rfl
theorem str_ext {a b : Str} (h : a.cps.toList = b.cps.toList) : a = b := by
  cases a; cases b
  simp only [Str.mk.injEq]
  exact Array.toList_inj.mp h
/-! ### dicts -/
theorem e_mDComp (mi : En → Res (List (En → Option En))) (vs : List Nat) (mt : En → Res Bool) (mk mv : En → Res D) (env : En) : mDComp mi vs mt mk mv env = (mi env).bind fun bs => if szB bs.length then compD mt mk mv (wipeE env vs) bs [] [] else .stuck := rfl
theorem compD_at {α : Type} {mt : En → Res Bool} {mk mv : En → Res D} {env : En} (b : α → En → Option En) (key : α → Str) (val : α → D) : ∀ (xs : List α) (ks : List Key) (ds : List D),
    (∀ x ∈ xs, ∃ e1, b x env = some e1 ∧ mt e1 = .ok true ∧ mk e1 = .ok (.str (key x)) ∧ mv e1 = .ok (val x)) → (xs.map key).Nodup → (∀ x ∈ xs, Sum.inr (key x) ∉ ks) →
    compD mt mk mv env (xs.map b) ks ds = .ok (.dct (ks ++ xs.map fun x => Sum.inr (key x)) (ds ++ xs.map val))
  | [], ks, ds, _, _, _ => by simp [compD]
  | x :: xs, ks, ds, h, hn, hk => by
    obtain ⟨e1, h1, h2, h3, h4⟩ := h x List.mem_cons_self
    have hx := hk x List.mem_cons_self
    have hh : hasK (Sum.inr (key x)) ks = false := by
      unfold hasK
      rw [List.any_eq_false]
      intro g hg
      simp only [decide_eq_true_eq]
      intro e
      exact hx (e ▸ hg)
    have ih := compD_at b key val xs (ks ++ [Sum.inr (key x)]) (ds ++ [val x]) (fun y hy => h y (List.mem_cons_of_mem _ hy)) (List.nodup_cons.mp hn).2 (fun y hy q => by
      rcases List.mem_append.mp q with q | q
      · exact hk y (List.mem_cons_of_mem _ hy) q
      · have e : key y = key x := by
          have := List.mem_singleton.mp q
          injection this
        exact (List.nodup_cons.mp hn).1 (e ▸ List.mem_map.mpr ⟨y, hy, rfl⟩))
    simp only [List.map_cons]
    unfold compD
    rw [h1]
    simp only [h2, h3, h4, keyD, putKs, putDs, hh, Bool.false_eq_true, if_false]
    rw [ih]
    simp
/-- a dict by the names of a list -/
abbrev dK (g : List Str) (f : Str → D) : D := .dct (g.map Sum.inr) (g.map f)
theorem getD_map (f : Str → D) (x : Str) : ∀ g : List Str, x ∈ g → getD' (.inr x) (g.map Sum.inr) (g.map f) = some (f x)
  | [], h => by cases h
  | y :: g, h => by
    simp only [List.map_cons, getD']
    by_cases e : y = x
    · subst e
      simp
    · have e2 : ¬ (Sum.inr y : Key) = Sum.inr x := fun q => e (by cases q; rfl)
      rw [if_neg e2]
      exact getD_map f x g ((List.mem_cons.mp h).resolve_left fun q => e q.symm)
theorem dget_map {g : List Str} {f : Str → D} {x : Str} (h : x ∈ g) : dgetD (dK g f) (.str x) = some (f x) := getD_map f x g h
/-! ### targets, iterables -/
theorem tg2 (env : En) (a b : D) (i j : Nat) : tgTup [tgName i, tgName j] (.tup [a, b]) env = some ((env.set i (.sh a)).set j (.sh b)) := rfl
theorem tg3 (env : En) (a b c : D) (i j k : Nat) : tgTup [tgName i, tgName j, tgName k] (.tup [a, b, c]) env = some (((env.set i (.sh a)).set j (.sh b)).set k (.sh c)) := rfl
theorem tg4 (env : En) (a b c d : D) (i j k l : Nat) : tgTup [tgName i, tgName j, tgName k, tgName l] (.tup [a, b, c, d]) env = some ((((env.set i (.sh a)).set j (.sh b)).set k (.sh c)).set l (.sh d)) := rfl
theorem enum_pairs : ∀ (xs : List D) (k : Nat), pairsD k xs = xs.mapIdx fun i d => D.tup [.int ((k + i : Nat) : Int), d]
  | [], _ => rfl
  | d :: xs, k => by
    rw [List.mapIdx_cons, pairsD, enum_pairs xs (k + 1)]
    congr 1
    apply List.ext_getElem?
    intro i
    simp [Nat.add_assoc, Nat.add_comm 1]
theorem e_enumT (env : En) (m : En → Res D) (f : D → En → Option En) (xs : List D) (h : m env = .ok (.tup xs)) : mEnumerateI m f env = .ok ((pairsD 0 xs).map f) := by
  unfold mEnumerateI mB
  rw [h]; rfl
@[simp] theorem e_enum (env : En) (m : En → Res D) (f : D → En → Option En) : mEnumerateI m f env = (m env).bind fun d => (seqsD d).bind fun xs => .ok ((pairsD 0 xs).map f) := ir rfl
@[simp] theorem e_seqsT (xs : List D) : seqsD (.tup xs) = .ok xs := ir rfl
@[simp] theorem e_seqsL (xs : List D) : seqsD (.lst xs) = .ok xs := ir rfl
@[simp] theorem e_mSeqT (m : En → Res D) (f : D → En → Option En) (env : En) : mSeqT m f env = (m env).bind fun d => (itemsT d).bind fun xs => .ok (xs.map f) := ir rfl
@[simp] theorem e_itemsT (xs : List D) : itemsT (.lst xs) = .ok xs := ir rfl
theorem e_zipT (env : En) (m n : En → Res D) (f : D → En → Option En) (xs ys : List D) (h : m env = .ok (.tup xs)) (k : n env = .ok (.tup ys)) : mZipI m n f env = .ok ((zipD xs ys).map f) := by
  unfold mZipI mB mCons
  simp only [mB, h, k, rb_ok, mNil]
  rfl
/-! a loop over places: what stands at each place is told by its number -/
theorem loop_enum {body : En → SR} {xs : List D} {f : D → En → Option En} {env0 : En} {r : SR} (hr : loopM body ((pairsD 0 xs).map f) env0 = r) (I : Nat → En → Prop) (h0 : I 0 env0)
    (step : ∀ k env (hk : k < xs.length), I k env → ∃ e1 e2, f (.tup [.int (k : Int), xs[k]]) env = some e1 ∧ body e1 = .nx e2 ∧ I (k + 1) e2) : ∃ e, r = .nx e ∧ I xs.length e := by
  have z := loop_at hr I h0 fun k env hk hi => by
    rw [List.length_map, pairsD_len] at hk
    obtain ⟨e1, e2, h1, h2, h3⟩ := step k env hk hi
    refine ⟨e1, e2, ?_, h2, h3⟩
    rw [List.getElem_map]
    have : (pairsD 0 xs)[k]'(by rw [pairsD_len]; exact hk) = .tup [.int (k : Int), xs[k]] := by
      have q := pairsD_at k 0 xs
      rw [List.getElem?_eq_getElem (by rw [pairsD_len]; exact hk), List.getElem?_eq_getElem hk] at q
      simpa using q
    rw [this]; exact h1
  rw [List.length_map, pairsD_len] at z
  exact z
/-- a loop that may stop with an answer at the first item that says so -/
theorem loop_find {α : Type} {body : En → SR} {env0 : En} (xs : List α) (b : α → En → Option En) (bad : α → Bool) (stop : SR) (I : En → Prop) (h0 : I env0)
    (step : ∀ x env, x ∈ xs → I env → ∃ e1, b x env = some e1 ∧ (bad x = true → body e1 = stop) ∧ (bad x = false → ∃ e2, body e1 = .nx e2 ∧ I e2)) (hs : ∀ e, stop ≠ .nx e) (hc : ∀ e, stop ≠ .ct e) (hb : ∀ e, stop ≠ .bk e) :
    if xs.any bad then loopM body (xs.map b) env0 = stop else ∃ e, loopM body (xs.map b) env0 = .nx e ∧ I e := by
  induction xs generalizing env0 with
  | nil => exact ⟨env0, rfl, h0⟩
  | cons x xs ih =>
    obtain ⟨e1, h1, h2, h3⟩ := step x env0 List.mem_cons_self h0
    rw [List.any_cons]
    cases hx : bad x with
    | true =>
      simp only [Bool.true_or, if_true, List.map_cons]
      unfold loopM
      rw [h1]
      simp only [h2 hx]
    | false =>
      obtain ⟨e2, k1, k2⟩ := h3 hx
      have z := ih k2 fun y env hy => step y env (List.mem_cons_of_mem _ hy)
      simp only [Bool.false_or, List.map_cons]
      unfold loopM
      rw [h1]
      simp only [k1]
      exact z
/-- .. with an answer that depends on the item -/
theorem loop_first {α : Type} {body : En → SR} {env0 : En} (xs : List α) (b : α → En → Option En) (bad : α → Bool) (stop : α → SR) (I : En → Prop) (h0 : I env0)
    (step : ∀ x env, x ∈ xs → I env → ∃ e1, b x env = some e1 ∧ (bad x = true → body e1 = stop x) ∧ (bad x = false → ∃ e2, body e1 = .nx e2 ∧ I e2)) (hs : ∀ x e, stop x ≠ .nx e) (hc : ∀ x e, stop x ≠ .ct e) (hb : ∀ x e, stop x ≠ .bk e) :
    match xs.find? bad with
    | some x => loopM body (xs.map b) env0 = stop x
    | none => ∃ e, loopM body (xs.map b) env0 = .nx e ∧ I e := by
  induction xs generalizing env0 with
  | nil => exact ⟨env0, rfl, h0⟩
  | cons x xs ih =>
    obtain ⟨e1, h1, h2, h3⟩ := step x env0 List.mem_cons_self h0
    cases hx : bad x with
    | true =>
      rw [List.find?_cons_of_pos hx]
      simp only [List.map_cons]
      unfold loopM
      rw [h1]
      simp only
      have e := h2 hx
      cases q : stop x with
      | nx z => exact absurd q (hs x z)
      | ct z => exact absurd q (hc x z)
      | bk z => exact absurd q (hb x z)
      | rt d => rw [e, q]
      | rf o => rw [e, q]
      | exc a c fn fv => rw [e, q]
      | stuck => rw [e, q]
    | false =>
      obtain ⟨e2, k1, k2⟩ := h3 hx
      have z := ih k2 fun y env hy => step y env (List.mem_cons_of_mem _ hy)
      rw [List.find?_cons_of_neg (by rw [hx]; exact Bool.false_ne_true)]
      have e : loopM body (List.map b (x :: xs)) env0 = loopM body (xs.map b) e2 := by
        simp only [List.map_cons]
        conv => lhs; unfold loopM
        rw [h1]
        simp only [k1]
      rw [e]
      exact z
/-! ### this and that -/
theorem dS_take (xs : List Str) (k : Nat) : List.take k (dS xs) = dS (xs.take k) := (List.map_take ..).symm
theorem d_map {α : Type} (f : α → Str) (xs : List α) : xs.map (fun x => D.str (f x)) = dS (xs.map f) := by simp [Function.comp_def]
theorem andR (a b : Bool) : (if a = true then (Res.ok b) else Res.ok false) = Res.ok (a && b) := by cases a <;> rfl
theorem orR (a b : Bool) : (if a = true then (Res.ok true) else Res.ok b) = Res.ok (a || b) := by cases a <;> rfl
@[simp] theorem isN_non : isN .non .non = some (.bl true) := rfl
@[simp] theorem isN_tup (xs : List D) : isN (.tup xs) .non = some (.bl false) := rfl
@[simp] theorem isN_str (x : Str) : isN (.str x) .non = some (.bl false) := rfl
@[simp] theorem isN_obj (c fn fv) : isN (.obj c fn fv) .non = some (.bl false) := rfl
@[simp] theorem notN_non : notN .non .non = some (.bl false) := rfl
@[simp] theorem notN_tup (xs : List D) : notN (.tup xs) .non = some (.bl true) := rfl
@[simp] theorem notN_str (x : Str) : notN (.str x) .non = some (.bl true) := rfl
@[simp] theorem notN_obj (c fn fv) : notN (.obj c fn fv) .non = some (.bl true) := rfl
@[simp] theorem e_revT (xs : List D) : revT (.tup xs) = some (.tup xs.reverse) := rfl
@[simp] theorem e_slXT (xs : List D) (lo hi : Option Int) : slX (.tup xs) lo hi = slD (.tup xs) lo hi := rfl
@[simp] theorem e_slXL (xs : List D) (lo hi : Option Int) : slX (.lst xs) lo hi = .ok (.lst (cutD xs lo hi)) := rfl
@[simp] theorem e_addXL (xs ys : List D) (h : xs.length + ys.length ≤ 16777216) : addX (.lst xs) (.lst ys) = some (.lst (xs ++ ys)) := by
  show (if szB (xs.length + ys.length) = true then some (D.lst (xs ++ ys)) else none) = _
  rw [e_szB _ h]; rfl
theorem cut_neg (xs : List D) : cutD xs none (some (-1)) = xs.dropLast := by
  unfold cutD
  rw [HT.sIx_none, List.drop_zero, Nat.sub_zero, List.dropLast_eq_take]
  congr 1
  show (if (-1 : Int) < 0 then (-1 + (xs.length : Int)).toNat else min (-1 : Int).toNat xs.length) = _
  rw [if_pos (by decide)]
  omega
theorem cut_last (xs : List D) (k : Nat) (hk : 0 < k) : cutD xs (some (-(k : Int))) none = xs.drop (xs.length - k) := by
  unfold cutD
  rw [HT.sIx_none]
  have e : HT.sIx xs.length 0 (some (-(k : Int))) = xs.length - k := by
    show (if (-(k : Int)) < 0 then (-(k : Int) + (xs.length : Int)).toNat else min (-(k : Int)).toNat xs.length) = _
    rw [if_pos (by omega)]
    omega
  rw [e, List.take_of_length_le (by simp)]
theorem at_last (xs : List D) : ixD (.lst xs) (.int (-1)) = xs.getLast? := by
  show atI xs (-1) = _
  unfold atI ixN
  rw [List.getLast?_eq_getElem?]
  by_cases h : xs = []
  · subst h; rfl
  · have : 0 < xs.length := List.length_pos_iff.mpr h
    rw [if_neg (by decide)]
    rw [if_pos (by omega)]
    show xs[_]? = _
    congr 1
    omega
theorem whileM_step (mt : En → Res Bool) (body : En → SR) (n : Nat) (env : En) : whileM mt body (n + 1) env = (match mt env with
    | .ok true => (match body env with
      | .nx env2 => whileM mt body n env2
      | .ct env2 => whileM mt body n env2
      | .bk env2 => .nx env2
      | r => r)
    | .ok false => .nx env
    | .exc c fn fv => .exc env c fn fv
    | .stuck => .stuck) := rfl
/-- pairs of names -/
def eP (p : Str × Str) : D := .tup [.str p.1, .str p.2]
theorem eP_at (p : Str × Str) : eP p = .tup [.str p.1, .str p.2] := rfl
theorem ix_P0 (p : Str × Str) : ixD (eP p) (.int 0) = some (.str p.1) := rfl
theorem ix_P1 (p : Str × Str) : ixD (eP p) (.int 1) = some (.str p.2) := rfl
/-! tuples and lists of typed things -/
theorem eqvAll_map {α : Type} [DecidableEq α] {enc : α → D} {P : α → Prop} (G : Good enc P) : ∀ xs ys : List α, PyData.eqvAll (xs.map G.pd) (ys.map G.pd) = decide (xs = ys)
  | [], [] => rfl
  | [], y :: ys => by simp [PyData.eqvAll]
  | x :: xs, [] => by simp [PyData.eqvAll]
  | x :: xs, y :: ys => by
    simp only [List.map_cons, PyData.eqvAll, G.eqv, eqvAll_map G xs ys, List.cons.injEq, Bool.decide_and]
def Good.tupG {α : Type} [DecidableEq α] {enc : α → D} {P : α → Prop} (G : Good enc P) (hd : ∀ a, (G.pd a).depth ≤ 7) : Good (fun xs : List α => D.tup (xs.map enc)) (fun xs => ∀ x ∈ xs, P x) where
  pd := fun xs => .tuple (xs.map G.pd)
  dat := fun xs => by simp only [Sm.dat, G.dats xs, Option.map_some]
  lay := fun xs h => by simp only [PyData.canLay0, G.layAll xs h]
  dep := fun xs => by
    have : ∀ xs : List α, PyData.depthAll (xs.map G.pd) ≤ 7 := fun xs => by
      induction xs with
      | nil => simp [PyData.depthAll]
      | cons a xs ih => have := hd a; simp only [List.map_cons, PyData.depthAll]; omega
    have := this xs
    simp only [PyData.depth]
    omega
  eqv := fun a b => by simp only [PyData.eqv, eqvAll_map G]
def Good.lstG {α : Type} [DecidableEq α] {enc : α → D} {P : α → Prop} (G : Good enc P) (hd : ∀ a, (G.pd a).depth ≤ 7) : Good (fun xs : List α => D.lst (xs.map enc)) (fun xs => ∀ x ∈ xs, P x) where
  pd := fun xs => .list (xs.map G.pd)
  dat := fun xs => by simp only [Sm.dat, G.dats xs, Option.map_some]
  lay := fun xs h => by simp only [PyData.canLay0, G.layAll xs h]
  dep := fun xs => by
    have : ∀ xs : List α, PyData.depthAll (xs.map G.pd) ≤ 7 := fun xs => by
      induction xs with
      | nil => simp [PyData.depthAll]
      | cons a xs ih => have := hd a; simp only [List.map_cons, PyData.depthAll]; omega
    have := this xs
    simp only [PyData.depth]
    omega
  eqv := fun a b => by simp only [PyData.eqv, eqvAll_map G]
/-- tuples of texts -/
def gTS : Good (fun xs : List Str => D.tup (dS xs)) (fun xs => ∀ x ∈ xs, sOk x) := gS.tupG fun _ => Nat.zero_le _
def gLS : Good (fun xs : List Str => D.lst (dS xs)) (fun xs => ∀ x ∈ xs, sOk x) := gS.lstG fun _ => Nat.zero_le _
theorem ne_tS {xs ys : List Str} (h : ∀ x ∈ xs, sOk x) (h2 : ∀ x ∈ ys, sOk x) : neD (.tup (dS xs)) (.tup (dS ys)) = some (.bl (!decide (xs = ys))) := gTS.neD h h2
theorem eq_tS {xs ys : List Str} (h : ∀ x ∈ xs, sOk x) (h2 : ∀ x ∈ ys, sOk x) : eqD (.tup (dS xs)) (.tup (dS ys)) = some (.bl (decide (xs = ys))) := gTS.eqD h h2
theorem ne_lS {xs ys : List Str} (h : ∀ x ∈ xs, sOk x) (h2 : ∀ x ∈ ys, sOk x) : neD (.lst (dS xs)) (.lst (dS ys)) = some (.bl (!decide (xs = ys))) := gLS.neD h h2
@[simp] theorem ne_ii (a b : Int) : neD (.int a) (.int b) = some (.bl (!decide (a = b))) := gI.neD trivial trivial
@[simp] theorem eq_ii (a b : Int) : eqD (.int a) (.int b) = some (.bl (decide (a = b))) := gI.eqD trivial trivial
@[simp] theorem eq_bb (a b : Bool) : eqD (.bl a) (.bl b) = some (.bl (decide (a = b))) := gB.eqD trivial trivial
@[simp] theorem ne_bb (a b : Bool) : neD (.bl a) (.bl b) = some (.bl (!decide (a = b))) := gB.neD trivial trivial
theorem eq_ss {a b : Str} (h : sOk a) (h2 : sOk b) : eqD (.str a) (.str b) = some (.bl (decide (a = b))) := gS.eqD h h2
theorem ne_ss {a b : Str} (h : sOk a) (h2 : sOk b) : neD (.str a) (.str b) = some (.bl (!decide (a = b))) := gS.neD h h2
@[simp] theorem ni_strT (a : Str) (xs : List Str) : niY (.str a) (.tup (dS xs)) = some (.bl (!decide (a ∈ xs))) := by
  have h : inXB (.str a) (.tup (dS xs)) = some (decide (a ∈ xs)) := by
    show inFL (.str a) (dS xs) = _
    unfold inFL
    simp only [fv, fvs_str, inV_str]
  unfold niY inYB
  rw [h]; rfl
/-! all, any of truth values -/
theorem blsD_map {α : Type} (f : α → Bool) : ∀ xs : List α, blsD (xs.map fun x => D.bl (f x)) = some (xs.map f)
  | [] => rfl
  | x :: xs => by
    have := blsD_map f xs
    simp only [List.map_cons, blsD, this, Option.map_some]
theorem allD_map {α : Type} (f : α → Bool) (xs : List α) : allD (.lst (xs.map fun x => D.bl (f x))) = .ok (.bl (xs.all f)) := by
  unfold allD
  simp only [blsD_map, List.all_map]
  rfl
theorem anyD_map {α : Type} (f : α → Bool) (xs : List α) : anyD (.lst (xs.map fun x => D.bl (f x))) = .ok (.bl (xs.any f)) := by
  unfold anyD
  simp only [blsD_map, List.any_map]
  rfl
theorem b1000 (n : Nat) (h : n < 1000) : Nat.blt n 1000 = true := by rw [Nat.blt_eq]; exact h
end Pl

set_option autoImplicit true
set_option Elab.async false
set_option linter.all false
set_option maxHeartbeats 2000000
/-! Taking off what is free: the mathematics. -/
namespace Pl
section
variable {α : Type} [DecidableEq α]
/-- held in more, held again -/
def Mono (held : List α → α → Bool) : Prop := ∀ L M c, (∀ x, x ∈ L → x ∈ M) → held L c = true → held M c = true
variable {held : List α → α → Bool}
theorem Mono.same (hm : Mono held) {L M : List α} (h : ∀ x, x ∈ L ↔ x ∈ M) (c : α) : held L c = held M c := by
  cases e : held L c with
  | true => exact (hm L M c (fun x hx => (h x).mp hx) e).symm
  | false =>
    cases e2 : held M c with
    | false => rfl
    | true => rw [hm M L c (fun x hx => (h x).mpr hx) e2] at e; cases e
def HeldIn (held : List α → α → Bool) (S : List α) : Prop := ∀ c ∈ S, held S c = true
/-- what is left: a part of g in its order, with all that holds itself -/
structure Lf (held : List α → α → Bool) (g L : List α) : Prop where
  part : ∃ p : α → Bool, L = g.filter p
  all : ∀ S, (∀ c ∈ S, c ∈ g) → HeldIn held S → ∀ c ∈ S, c ∈ L
theorem Lf.start (g : List α) : Lf held g g := ⟨⟨fun _ => true, (List.filter_eq_self.mpr fun _ _ => rfl).symm⟩, fun S h _ => h⟩
theorem Lf.sub {g L : List α} (h : Lf held g L) : ∀ c ∈ L, c ∈ g := fun c hc => by
  obtain ⟨p, rfl⟩ := h.part
  exact (List.mem_filter.mp hc).1
def off (c : α) (L : List α) : List α := L.filter fun x => !decide (x = c)
theorem mem_off {c x : α} {L : List α} : x ∈ off c L ↔ x ∈ L ∧ x ≠ c := by
  unfold off
  rw [List.mem_filter]
  simp
theorem Lf.off (hm : Mono held) {g L : List α} (h : Lf held g L) {c : α} (hc : held L c = false) : Lf held g (off c L) := by
  refine ⟨?_, fun S hS hh x hx => ?_⟩
  · obtain ⟨p, rfl⟩ := h.part
    exact ⟨fun x => p x && !decide (x = c), by unfold Pl.off; rw [List.filter_filter]; congr 1; funext x; exact Bool.and_comm ..⟩
  · refine mem_off.mpr ⟨h.all S hS hh x hx, fun e => ?_⟩
    subst e
    rw [hm S L x (h.all S hS hh) (hh x hx)] at hc
    cases hc
/-- the last that holds itself is the greatest -/
theorem Lf.uniq {g L M : List α} (h : Lf held g L) (k : Lf held g M) (hL : HeldIn held L) (hM : HeldIn held M) : L = M := by
  have h1 := k.all L h.sub hL
  have h2 := h.all M k.sub hM
  obtain ⟨p, rfl⟩ := h.part
  obtain ⟨q, rfl⟩ := k.part
  refine List.filter_congr fun x hx => ?_
  cases e1 : p x with
  | true => exact ((List.mem_filter.mp (h1 x (List.mem_filter.mpr ⟨hx, e1⟩))).2).symm
  | false =>
    cases e2 : q x with
    | false => rfl
    | true => rw [(List.mem_filter.mp (h2 x (List.mem_filter.mpr ⟨hx, e2⟩))).2] at e1; cases e1
theorem off_length {c : α} {L : List α} (hn : L.Nodup) (hc : c ∈ L) : (off c L).length + 1 = L.length := by
  unfold off
  induction L with
  | nil => cases hc
  | cons a L ih =>
    rw [List.nodup_cons] at hn
    by_cases e : a = c
    · subst e
      have : (L.filter fun x => !decide (x = a)) = L := List.filter_eq_self.mpr fun x hx => by
        have : x ≠ a := fun z => hn.1 (z ▸ hx)
        simp [this]
      simp [this]
    · have hc' : c ∈ L := (List.mem_cons.mp hc).resolve_left fun z => e z.symm
      have := ih hn.2 hc'
      simp [e]
      omega
/-! the peeling -/
def lastFree (held : List α → α → Bool) (L : List α) : Option α := (L.filter fun c => !held L c).getLast?
def peelF (held : List α → α → Bool) : Nat → List α → List α → List α × List α
  | 0, L, o => (L, o)
  | n + 1, L, o => match lastFree held L with
    | none => (L, o)
    | some c => peelF held n (off c L) (c :: o)
theorem lastFree_none {L : List α} : lastFree held L = none ↔ HeldIn held L := by
  unfold lastFree
  rw [List.getLast?_eq_none_iff, List.filter_eq_nil_iff]
  constructor
  · intro h c hc
    have := h c hc
    simpa using this
  · intro h c hc
    simp [h c hc]
theorem lastFree_some {L : List α} {c : α} (h : lastFree held L = some c) : c ∈ L ∧ held L c = false := by
  unfold lastFree at h
  have := List.mem_of_getLast? h
  rw [List.mem_filter] at this
  simpa using this
/-- what holds along the peeling -/
structure Pe (held : List α → α → Bool) (g L o : List α) : Prop where
  lf : Lf held g L
  mem : ∀ x, x ∈ g ↔ x ∈ L ∨ x ∈ o
  nd : o.Nodup
  dis : ∀ x ∈ o, x ∉ L
  free : ∀ i c, o[i]? = some c → held (L ++ o.take (i + 1)) c = false
theorem Pe.step (hm : Mono held) {g L o : List α} (h : Pe held g L o) {c : α} (hc : c ∈ L) (hf : held L c = false) : Pe held g (off c L) (c :: o) := by
  refine ⟨h.lf.off hm hf, fun x => ?_, ?_, fun x hx hxl => ?_, fun i d hd => ?_⟩
  · rw [h.mem x, mem_off, List.mem_cons]
    by_cases e : x = c
    · subst e; simp [hc]
    · simp [e]
  · rw [List.nodup_cons]
    exact ⟨fun z => h.dis c z hc, h.nd⟩
  · obtain ⟨h1, h2⟩ := mem_off.mp hxl
    rcases List.mem_cons.mp hx with e | e
    · exact h2 e
    · exact h.dis x e h1
  · cases i with
    | zero =>
      cases hd
      rw [hm.same (M := L) (fun x => ?_) c]
      · exact hf
      · rw [List.mem_append, mem_off]
        simp
        by_cases e : x = c
        · subst e; simp [hc]
        · simp [e]
    | succ i =>
      have hd' : o[i]? = some d := hd
      have z := h.free i d hd'
      rw [hm.same (M := L ++ o.take (i + 1)) (fun x => ?_) d]
      · exact z
      · rw [List.mem_append, List.mem_append, mem_off, List.take_succ_cons, List.mem_cons]
        by_cases e : x = c
        · subst e; simp [hc]
        · simp [e]
theorem Pe.start (g : List α) : Pe held g g [] := ⟨Lf.start g, fun x => by simp, List.nodup_nil, (fun x hx => nomatch hx), fun i c h => (by simp at h)⟩
theorem Pe.nodup {g L o : List α} (h : Pe held g L o) (hg : g.Nodup) : L.Nodup := by
  obtain ⟨p, rfl⟩ := h.lf.part
  exact hg.filter _
theorem peelF_ok (hm : Mono held) {g : List α} (hg : g.Nodup) : ∀ (n : Nat) (L o : List α), L.length ≤ n → Pe held g L o → Pe held g (peelF held n L o).1 (peelF held n L o).2 ∧ HeldIn held (peelF held n L o).1
  | 0, L, o, hl, h => by
    have : L = [] := List.eq_nil_of_length_eq_zero (by omega)
    subst this
    exact ⟨h, fun c hc => by cases hc⟩
  | n + 1, L, o, hl, h => by
    unfold peelF
    cases e : lastFree held L with
    | none => exact ⟨h, lastFree_none.mp e⟩
    | some c =>
      obtain ⟨h1, h2⟩ := lastFree_some e
      have := off_length (h.nodup hg) h1
      exact peelF_ok hm hg n _ _ (by omega) (h.step hm h1 h2)
/-- more turns change nothing -/
theorem peelF_more : ∀ (n : Nat) (L o : List α), lastFree held (peelF held n L o).1 = none → ∀ k, peelF held (n + k) L o = peelF held n L o
  | 0, L, o, h, k => by
    cases k with
    | zero => rfl
    | succ k =>
      have h' : lastFree held L = none := h
      rw [Nat.zero_add]
      unfold peelF
      rw [h']
  | n + 1, L, o, h, k => by
    have e : n + 1 + k = (n + k) + 1 := by omega
    rw [e]
    unfold peelF at h ⊢
    cases q : lastFree held L with
    | none => rfl
    | some c =>
      rw [q] at h
      exact peelF_more n _ _ h k
end
end Pl

set_option autoImplicit true
set_option Elab.async false
set_option linter.all false
set_option maxHeartbeats 2000000
/-! What was seen: cloaks, takings, depths, ties. -/
namespace Pl
open PySem Sm L2
abbrev Tk := Str × Str × List Str
structure Se where
  g : List Str
  tk : List Tk
  dp : List Int
  ti : List (Str × Str)
def dpF (s : Se) (a : Str) : Int := (s.dp[ix a s.g]?).getD 0
def cntF (hs lot : List Str) : Nat := (hs.filter fun x => decide (x ∈ lot)).length
def heldF (s : Se) (lot : List Str) (c : Str) : Bool :=
  (s.tk.any fun t => decide (t.2.1 = c) && decide (dpF s t.1 < (cntF t.2.2 lot : Int))) || s.ti.any fun p => decide (p.1 = c) && decide (p.2 ∈ lot)
structure Se.Ok (s : Se) : Prop where
  nd : s.g.Nodup
  ne : s.g ≠ []
  gl : s.g.length ≤ 12
  nm : ∀ x ∈ s.g, sOk x
  dl : s.dp.length = s.g.length
  dpos : ∀ d ∈ s.dp, 1 ≤ d
  tl : s.tk.length ≤ 100
  tg : ∀ t ∈ s.tk, t.1 ∈ s.g ∧ t.2.1 ∈ t.2.2 ∧ t.2.2 = s.g.filter fun x => decide (x ∈ t.2.2)
  il : s.ti.length ≤ 100
  ig : ∀ p ∈ s.ti, p.1 ∈ s.g ∧ p.2 ∈ s.g ∧ p.1 ≠ p.2
theorem Se.Ok.hs {s : Se} (h : s.Ok) {t : Tk} (ht : t ∈ s.tk) : (∀ x ∈ t.2.2, x ∈ s.g) ∧ t.2.2.Nodup ∧ t.2.2.length ≤ 12 := by
  obtain ⟨_, _, e⟩ := h.tg t ht
  refine ⟨fun x hx => by rw [e] at hx; exact (List.mem_filter.mp hx).1, by rw [e]; exact h.nd.filter _, ?_⟩
  rw [e]
  exact Nat.le_trans (List.length_filter_le ..) h.gl
theorem cnt_mono {hs L M : List Str} (h : ∀ x, x ∈ L → x ∈ M) : cntF hs L ≤ cntF hs M := by
  unfold cntF
  induction hs with
  | nil => exact Nat.le_refl _
  | cons a hs ih =>
    rw [List.filter_cons, List.filter_cons]
    by_cases h1 : a ∈ L
    · simp [h1, h a h1, ih]
    · by_cases h2 : a ∈ M
      · simp [h1, h2]; omega
      · simp [h1, h2, ih]
theorem held_mono (s : Se) : Mono (heldF s) := by
  intro L M c h e
  unfold heldF at e ⊢
  rw [Bool.or_eq_true, List.any_eq_true, List.any_eq_true] at e ⊢
  rcases e with ⟨t, h1, h2⟩ | ⟨p, h1, h2⟩
  · refine .inl ⟨t, h1, ?_⟩
    simp only [Bool.and_eq_true, decide_eq_true_eq] at h2 ⊢
    have := cnt_mono (hs := t.2.2) h
    exact ⟨h2.1, by omega⟩
  · refine .inr ⟨p, h1, ?_⟩
    simp only [Bool.and_eq_true, decide_eq_true_eq] at h2 ⊢
    exact ⟨h2.1, h _ h2.2⟩
/-- more is told, more is held -/
theorem held_more {s u : Se} (hg : s.g = u.g) (hd : s.dp = u.dp) (ht : ∀ t ∈ s.tk, t ∈ u.tk) (hi : ∀ p ∈ s.ti, p ∈ u.ti) {L : List Str} {c : Str} (h : heldF s L c = true) : heldF u L c = true := by
  unfold heldF at h ⊢
  rw [Bool.or_eq_true, List.any_eq_true, List.any_eq_true] at h ⊢
  have e : ∀ a, dpF s a = dpF u a := fun a => by unfold dpF; rw [hg, hd]
  rcases h with ⟨t, h1, h2⟩ | ⟨p, h1, h2⟩
  · rw [e] at h2
    exact .inl ⟨t, ht t h1, h2⟩
  · exact .inr ⟨p, hi p h1, h2⟩
/-! orders -/
def fitT (s : Se) (o : List Str) (t : Tk) : Bool := decide ((cntF t.2.2 (o.take (ix t.2.1 o)) : Int) < dpF s t.1)
def fitsF (s : Se) (o : List Str) : Bool := (s.tk.all fun t => fitT s o t) && s.ti.all fun p => decide (ix p.1 o ≤ ix p.2 o)
theorem take_ix {o : List Str} {b : Str} (hb : b ∈ o) : o.take (ix b o + 1) = o.take (ix b o) ++ [b] := by
  have h := ix_get hb
  rw [List.take_add_one, h]
  rfl
theorem cnt_snoc {hs A : List Str} {b : Str} (hn : hs.Nodup) (hb : b ∈ hs) (hA : b ∉ A) : cntF hs (A ++ [b]) = cntF hs A + 1 := by
  unfold cntF
  induction hs with
  | nil => cases hb
  | cons a hs ih =>
    rw [List.nodup_cons] at hn
    rw [List.filter_cons, List.filter_cons]
    by_cases e : a = b
    · subst e
      have h1 : (hs.filter fun x => decide (x ∈ A ++ [a])) = hs.filter fun x => decide (x ∈ A) := List.filter_congr fun x hx => by
        have : x ≠ a := fun z => hn.1 (z ▸ hx)
        simp [this]
      have e1 : decide (a ∈ A ++ [a]) = true := by simp
      have e2 : decide (a ∈ A) = false := by simpa using hA
      rw [e1, e2, h1]
      rfl
    · have hb' : b ∈ hs := (List.mem_cons.mp hb).resolve_left fun z => e z.symm
      have ih' := ih hn.2 hb'
      by_cases h2 : a ∈ A
      · simp [h2] at ih' ⊢
        omega
      · simp [h2, e] at ih' ⊢
        omega
theorem not_ahead {o : List Str} {b : Str} : b ∉ o.take (ix b o) := fun h => by
  obtain ⟨k, hk⟩ := List.mem_iff_getElem?.mp h
  rw [List.getElem?_take] at hk
  split at hk
  · rename_i q
    exact ix_min q hk
  · cases hk
theorem mem_take_lt {o : List Str} {b : Str} {k : Nat} (hb : b ∈ o) (h : ix b o < k) : b ∈ o.take k := by
  have := ix_get hb
  refine List.mem_iff_getElem?.mpr ⟨ix b o, ?_⟩
  rw [List.getElem?_take, if_pos h, this]
/-- an order that was peeled fits -/
theorem peel_fits {s : Se} (hs : s.Ok) {o : List Str} (h : Pe (heldF s) s.g [] o) : fitsF s o = true := by
  have mem : ∀ x, x ∈ s.g → x ∈ o := fun x hx => by
    rcases (h.mem x).mp hx with z | z
    · cases z
    · exact z
  have fr : ∀ c, c ∈ o → heldF s (o.take (ix c o) ++ [c]) c = false := fun c hc => by
    have z := h.free (ix c o) c (ix_get hc)
    rw [take_ix hc, List.nil_append] at z
    exact z
  unfold fitsF
  rw [Bool.and_eq_true, List.all_eq_true, List.all_eq_true]
  constructor
  · intro t ht
    obtain ⟨h1, h2, _⟩ := hs.tg t ht
    obtain ⟨h3, h4, _⟩ := hs.hs ht
    have hb : t.2.1 ∈ o := mem _ (h3 _ h2)
    have z := fr _ hb
    unfold heldF at z
    rw [Bool.or_eq_false_iff, List.any_eq_false, List.any_eq_false] at z
    have z1 := z.1 t ht
    rw [cnt_snoc h4 h2 not_ahead] at z1
    simp only [decide_true, Bool.true_and, decide_eq_true_eq] at z1
    unfold fitT
    exact decide_eq_true (by omega)
  · intro p hp
    obtain ⟨h1, h2, h3⟩ := hs.ig p hp
    have z := fr _ (mem _ h1)
    unfold heldF at z
    rw [Bool.or_eq_false_iff, List.any_eq_false, List.any_eq_false] at z
    have z1 := z.2 p hp
    simp only [decide_true, Bool.true_and, decide_eq_true_eq] at z1
    refine decide_eq_true ?_
    rcases Nat.lt_or_ge (ix p.2 o) (ix p.1 o) with q | q
    · exact absurd (List.mem_append_left _ (mem_take_lt (mem _ h2) q)) z1
    · exact q
theorem max_of {L : List Str} (f : Str → Nat) : L ≠ [] → ∃ c ∈ L, ∀ x ∈ L, f x ≤ f c := by
  induction L with
  | nil => intro h; exact absurd rfl h
  | cons a L ih =>
    intro _
    by_cases hL : L = []
    · subst hL
      exact ⟨a, List.mem_cons_self, fun x hx => by simp at hx; rw [hx]; exact Nat.le_refl _⟩
    · obtain ⟨c, h1, h2⟩ := ih hL
      by_cases hc : f a ≤ f c
      · exact ⟨c, List.mem_cons_of_mem _ h1, fun x hx => by
          rcases List.mem_cons.mp hx with e | e
          · rw [e]; exact hc
          · exact h2 x e⟩
      · exact ⟨a, List.mem_cons_self, fun x hx => by
          rcases List.mem_cons.mp hx with e | e
          · rw [e]; exact Nat.le_refl _
          · have := h2 x e; omega⟩
theorem ix_inj {o : List Str} {x y : Str} (hx : x ∈ o) (hy : y ∈ o) (h : ix x o = ix y o) : x = y := by
  have h1 := ix_get hx
  have h2 := ix_get hy
  rw [h, h2] at h1
  cases h1
  rfl
theorem cnt_le_succ {hs L A : List Str} {c : Str} (hn : hs.Nodup) (h : ∀ x, x ∈ hs → x ∈ L → x ≠ c → x ∈ A) : cntF hs L ≤ cntF hs A + 1 := by
  unfold cntF
  induction hs with
  | nil => simp
  | cons a hs ih =>
    rw [List.nodup_cons] at hn
    rw [List.filter_cons, List.filter_cons]
    by_cases e : a = c
    · have h1 : ((hs.filter fun x => decide (x ∈ L)).length) ≤ (hs.filter fun x => decide (x ∈ A)).length := by
        have : ∀ x ∈ hs, decide (x ∈ L) = true → decide (x ∈ A) = true := fun x hx hl => by
          simp only [decide_eq_true_eq] at hl ⊢
          exact h x (List.mem_cons_of_mem _ hx) hl fun z => hn.1 (e ▸ z ▸ hx)
        clear ih h hn
        induction hs with
        | nil => exact Nat.le_refl _
        | cons b hs ih =>
          have i := ih fun x hx => this x (List.mem_cons_of_mem _ hx)
          have t := this b List.mem_cons_self
          rw [List.filter_cons, List.filter_cons]
          by_cases q : b ∈ L
          · have : b ∈ A := by simpa using t (by simpa using q)
            simp [q, this]; exact i
          · by_cases q2 : b ∈ A
            · simp [q, q2]; omega
            · simp [q, q2]; exact i
      by_cases q : a ∈ L
      · by_cases q2 : a ∈ A
        · simp [q, q2]; omega
        · simp [q, q2]; exact h1
      · by_cases q2 : a ∈ A
        · simp [q, q2]; omega
        · simp [q, q2]; omega
    · have i := ih hn.2 fun x hx => h x (List.mem_cons_of_mem _ hx)
      by_cases q : a ∈ L
      · have q2 : a ∈ A := h a List.mem_cons_self q e
        simp [q, q2]; exact i
      · by_cases q2 : a ∈ A
        · simp [q, q2]; omega
        · simp [q, q2]; exact i
/-- where some are held in themselves, no order fits -/
theorem stuck_nofit {s : Se} (hs : s.Ok) {L o : List Str} (hL : L ≠ []) (hh : HeldIn (heldF s) L) (hm : ∀ x ∈ L, x ∈ o) : fitsF s o = false := by
  obtain ⟨c, hc, hmax⟩ := max_of (fun x => ix x o) hL
  have lt : ∀ x ∈ L, x ≠ c → ix x o < ix c o := fun x hx ne => by
    rcases Nat.lt_or_ge (ix x o) (ix c o) with q | q
    · exact q
    · exact absurd (ix_inj (hm x hx) (hm c hc) (Nat.le_antisymm (hmax x hx) q)) ne
  have z := hh c hc
  unfold heldF at z
  rw [Bool.or_eq_true, List.any_eq_true, List.any_eq_true] at z
  unfold fitsF
  rw [Bool.and_eq_false_iff, List.all_eq_false, List.all_eq_false]
  rcases z with ⟨t, h1, h2⟩ | ⟨p, h1, h2⟩
  · left
    simp only [Bool.and_eq_true, decide_eq_true_eq] at h2
    obtain ⟨e, h2⟩ := h2
    refine ⟨t, h1, ?_⟩
    obtain ⟨h3, h4, _⟩ := hs.hs h1
    have := cnt_le_succ (c := c) (A := o.take (ix c o)) h4 fun x hx hxL ne => mem_take_lt (hm x hxL) (lt x hxL ne)
    unfold fitT
    rw [e]
    simp only [decide_eq_true_eq]
    omega
  · right
    simp only [Bool.and_eq_true, decide_eq_true_eq] at h2
    obtain ⟨e, h2⟩ := h2
    refine ⟨p, h1, ?_⟩
    have ne : p.2 ≠ c := fun q => (hs.ig p h1).2.2 (e.trans q.symm)
    have := lt _ h2 ne
    rw [e]
    simp only [decide_eq_true_eq]
    omega
/-! the result -/
def resF (s : Se) : List Str × List Str := peelF (heldF s) s.g.length s.g []
def leftF (s : Se) : List Str := (resF s).1
def ordF (s : Se) : List Str := (resF s).2
theorem res_ok {s : Se} (hs : s.Ok) : Pe (heldF s) s.g (leftF s) (ordF s) ∧ HeldIn (heldF s) (leftF s) := peelF_ok (held_mono s) hs.nd _ _ _ (Nat.le_refl _) (Pe.start s.g)
theorem stuck_left {s : Se} (hs : s.Ok) {S : List Str} (h : ∀ c ∈ S, c ∈ s.g) (hh : HeldIn (heldF s) S) : ∀ c ∈ S, c ∈ leftF s := (res_ok hs).1.lf.all S h hh
theorem left_sub {s : Se} (hs : s.Ok) : ∀ c ∈ leftF s, c ∈ s.g := (res_ok hs).1.lf.sub
/-- with more told, more is left -/
theorem left_more {s u : Se} (hs : s.Ok) (hu : u.Ok) (hg : s.g = u.g) (hd : s.dp = u.dp) (ht : ∀ t ∈ s.tk, t ∈ u.tk) (hi : ∀ p ∈ s.ti, p ∈ u.ti) : ∀ c ∈ leftF s, c ∈ leftF u :=
  stuck_left hu (fun c hc => hg ▸ left_sub hs c hc) fun c hc => held_more hg hd ht hi ((res_ok hs).2 c hc)
end Pl

set_option autoImplicit true
set_option Elab.async false
set_option linter.all false
set_option maxRecDepth 100000
set_option maxHeartbeats 2000000
namespace Pl
open PySem Sm K49 L2
theorem cell_ok (ns : List Int) (k : Nat) (hk : k ≤ 1000) : ∃ c : Int, M_law_cell [.scr ns, .int (k : Int)] = .ok (.int c) := by
  simp [M_law_cell, runD, m_law_cell, envOf, ixD]
  by_cases h : k < ns.length
  · simp [h, atI_natE]
  · simp [h]
    generalize hr : loopM _ _ _ = r
    obtain ⟨e, rfl, s, c, h1, h2, rfl⟩ := loop_at hr (fun _ env => ∃ (s : Int) (c : Cl), 0 ≤ s ∧ s < 1000003 ∧ env = [.sh (.scr ns), .sh (.int k), .sh (.int s), c]) ⟨17, .un, by omega, by omega, rfl⟩ (by
      rintro j env hj ⟨s, c, h1, h2, rfl⟩
      simp at hj ⊢
      rw [e_mul s 31 21 21 (by omega) (by omega) (by omega)]
      simp
      rw [e_mod _ _ (by omega)]
      simp
      rw [e_mod _ _ (by omega)]
      simp
      omega)
    simp
    rw [e_mul (s + 7) (k + 3) 21 21 (by omega) (by omega) (by omega)]
    simp
    rw [e_mul _ _ 42 21 (natAbs_mul_lt (n := 21) (m := 21) (by omega) (by omega)) (by omega) (by omega)]
    simp
    rw [e_mod _ _ (by omega)]
    simp

/-- digits below their sizes -/
theorem digits_ok (c : Int) (sizes : List Int) (hp : ∀ s ∈ sizes, 0 < s ∧ s.natAbs < 2 ^ 64) (hl : sizes.length ≤ 10000) :
    ∃ row : List Int, M_law_digits [.int c, .lst (sizes.map .int)] = .ok (.lst (row.map .int)) ∧ Dg sizes row := by
  have hz : ∀ k (hk : k < sizes.length), sizes[k]? = some sizes[k] := fun k hk => List.getElem?_eq_getElem hk
  simp [M_law_digits, runF, m_law_digits, envOf, e_pow1018]
  by_cases h : 1000000000000000000 ≤ c
  · simp [h]
    generalize hr : loopM _ _ _ = r
    obtain ⟨e, rfl, row, rest, cl, h1, h2, rfl⟩ := loop_at hr (fun k env => ∃ (row : List Int) (rest : Int) (cl : Cl), row.length = k ∧ (∀ (i : Nat) (d : Int), row[i]? = some d → ∃ s, sizes[i]? = some s ∧ 0 ≤ d ∧ d < s) ∧
        env = [.sh (.int c), .sh (.lst (sizes.map .int)), .ow (.lst (row.map .int)), .sh (.int rest), .un, .un, cl, .un]) ⟨[], _, _, rfl, (by intro i d hi; cases hi), rfl⟩ (by
      rintro j env hj ⟨row, rest, cl, h1, h2, rfl⟩
      simp at hj ⊢
      have hs := hp sizes[j] (List.getElem_mem hj)
      rw [e_mod _ _ hs.1]
      simp
      rw [e_app _ _ (by simp; omega)]
      simp
      rw [e_div _ _ hs.1 hs.2]
      simp
      refine ⟨row ++ [rest % sizes[j]], by simp [h1], Dg.push h1 h2 (hz j hj) (Int.emod_nonneg _ (by omega)) (Int.emod_lt_of_pos _ hs.1), by simp⟩)
    simp
    exact ⟨row, rfl, by simpa using h1, h2⟩
  · simp [h]
    rw [e_mod _ _ (by omega)]
    simp
    rw [e_rng _ (by omega)]
    simp
    generalize hr : loopM _ _ _ = r
    obtain ⟨e, rfl, row, seed, c1, c2, h0, h3, h1, h2, rfl⟩ := loop_at hr (fun k env => ∃ (row : List Int) (seed : Int) (c1 c2 : Cl), 0 ≤ seed ∧ seed < 2147483647 ∧ row.length = k ∧ (∀ (i : Nat) (d : Int), row[i]? = some d → ∃ s, sizes[i]? = some s ∧ 0 ≤ d ∧ d < s) ∧
        env = [.sh (.int c), .sh (.lst (sizes.map .int)), .ow (.lst (row.map .int)), .sh (.int c), .sh (.int seed), c1, .un, c2]) ⟨[], c % 2147483629, _, _, by omega, by omega, rfl, (by intro i d hi; cases hi), rfl⟩ (by
      rintro j env hj ⟨row, seed, c1, c2, h0, h3, h1, h2, rfl⟩
      simp at hj ⊢
      have hs := hp sizes[j] (List.getElem_mem hj)
      rw [e_mul seed 48271 31 16 (by omega) (by omega) (by omega), e_mul 974711 j 20 14 (by omega) (by omega) (by omega)]
      simp
      rw [e_mod _ _ (by omega)]
      simp
      generalize hsd : (seed * 48271 + 974711 * (j : Int) + 12345) % 2147483647 = sd
      have hs1 : 0 ≤ sd ∧ sd < 2147483647 := by omega
      rw [e_div sd 65537 (by omega) (by decide)]
      simp
      rw [e_mul sd _ 31 31 (by omega) (by omega) (by omega)]
      simp
      rw [e_mod _ _ (by omega)]
      simp
      rw [e_div _ 19 (by omega) (by decide)]
      simp [ixD, atI_natE, hj]
      rw [e_mod _ _ hs.1]
      simp
      rw [e_app _ _ (by simp; omega)]
      simp
      refine ⟨row ++ [sd * (sd / 65537 + 3) % 2147483629 / 19 % sizes[j]], sd, hs1.1, hs1.2, by simp [h1], Dg.push h1 h2 (hz j hj) (Int.emod_nonneg _ (by omega)) (Int.emod_lt_of_pos _ hs.1), ?_⟩
      simp)
    simp
    exact ⟨row, rfl, by simpa using h1, h2⟩
theorem order_ok (row : List Int) (many : Nat) (h : many ≤ row.length) (hm : many ≤ 1000) :
    ∃ p : List Nat, M_law_order [.lst (row.map .int), .int (many : Int)] = .ok (.lst (dN p)) ∧ p.Perm (List.range many) := by
  simp [M_law_order, m_law_order]
  rw [e_rgL _ (by omega)]
  simp
  rw [e_rng _ (by omega)]
  simp
  generalize hr : loopM _ _ _ = r
  obtain ⟨e, rfl, T, L, cl, h1, h2, h3, rfl⟩ := loop_for hr (List.range many) (fun i : Nat => .int (i : Int)) 4 rfl (fun k env => ∃ (T L : List Nat) (cl : Cl), T.length = k ∧ L.length + k = many ∧ (T ++ L).Perm (List.range many) ∧
      env = [.sh (.lst (row.map .int)), .sh (.int many), .ow (.lst (dN L)), .ow (.lst (dN T)), cl]) ⟨[], List.range many, _, rfl, by simp, by simp, rfl⟩ (by
    rintro j env hj ⟨T, L, cl, h1, h2, h3, rfl⟩
    simp at hj
    have hj2 : j < row.length := by omega
    have hp : (0 : Int) < (L.length : Int) := by omega
    obtain ⟨q, hq⟩ : ∃ q : Nat, row[j] % (L.length : Int) = (q : Int) := ⟨(row[j] % (L.length : Int)).toNat, (Int.toNat_of_nonneg (Int.emod_nonneg _ (by omega))).symm⟩
    have hql : q < L.length := by
      have := Int.emod_lt_of_pos row[j] hp
      omega
    have hle := len_erase L q hql
    refine ⟨[.sh (.lst (row.map .int)), .sh (.int many), .ow (.lst (dN (L.eraseIdx q))), .ow (.lst (dN (T ++ [L[q]]))), .sh (.int j)], ?_, T ++ [L[q]], L.eraseIdx q, _, by simp [h1], by omega, ?_, rfl⟩
    · simp [ixD, atI_natE, hj2]
      rw [e_mod _ _ hp]
      simp
      rw [hq, e_pop _ _ (by simpa using hql) (by simp; omega)]
      simp
      rw [e_app _ _ (by simp; omega)]
      simp [erase_map]
    · rw [List.append_assoc]
      exact ((perm_erase L q hql).append_left T).trans h3)
  rw [List.length_range] at h1 h2
  have hL : L = [] := List.eq_nil_of_length_eq_zero (by omega)
  subst hL
  simp
  exact ⟨T, rfl, by simpa using h3⟩

/-! ### frozen, mixed -/
def Td : Nat → D → Prop
  | 0, _ => False
  | n + 1, .str x => sOk x
  | n + 1, .int _ => True
  | n + 1, .bl _ => True
  | n + 1, .non => True
  | n + 1, .tup xs => xs.length ≤ 100000 ∧ ∀ x ∈ xs, Td n x
  | _ + 1, _ => False
theorem isi_lt : isiD ["list", "tuple"] (.lst xs) = some (.bl true) := rfl
theorem isi_tt : isiD ["list", "tuple"] (.tup xs) = some (.bl true) := rfl
theorem frozen_leaf {n : Nat} {d : D} (h : isiD ["list", "tuple"] d = some (.bl false)) : M_frozen (n + 1) [d] = .ok d := by
  simp [M_frozen, m_frozen, h]
theorem frozen_seq {n : Nat} {xs : List D} {d : D} (hd : d = .lst xs ∨ d = .tup xs) (hl : xs.length ≤ 100000) (f : D → D) (h : ∀ x ∈ xs, M_frozen n [x] = .ok (f x)) : M_frozen (n + 1) [d] = .ok (.tup (xs.map f)) := by
  have hi : isiD ["list", "tuple"] d = some (.bl true) := by rcases hd with rfl | rfl <;> rfl
  have hs : itemsD d = .ok xs := by rcases hd with rfl | rfl <;> rfl
  simp [M_frozen, m_frozen, hi, hs]
  rw [e_szB _ (by omega)]
  simp
  generalize hc : compL _ _ _ _ = r
  have z := comp_all hc xs (fun x => tgName 1 x) f rfl (fun x hx => ⟨_, rfl, rfl, by simp [h x hx]⟩)
  subst z
  simp
theorem frozen_td : ∀ {n : Nat} {d : D}, Td n d → M_frozen n [d] = .ok d
  | 0, _, h => h.elim
  | n + 1, .str x, h => frozen_leaf rfl
  | n + 1, .int x, h => frozen_leaf rfl
  | n + 1, .bl x, h => frozen_leaf rfl
  | n + 1, .non, h => frozen_leaf rfl
  | n + 1, .tup xs, h => by
    have z := frozen_seq (n := n) (d := .tup xs) (.inr rfl) h.1 id fun x hx => frozen_td (h.2 x hx)
    simpa using z
end Pl

set_option autoImplicit true
set_option Elab.async false
set_option linter.all false
set_option maxRecDepth 100000
set_option maxHeartbeats 4000000
namespace Pl
open PySem Sm K49 L2
/-! ### what was seen, made -/
def eK (t : Tk) : D := .tup [.str t.1, .str t.2.1, .tup (dS t.2.2)]
def eS (s : Se) : D := .lst [.lst (dS s.g), .lst (s.tk.map eK), .lst (dI s.dp), .lst (s.ti.map eP)]
def limD (s : Se) (c : Str) : D := .lst ((s.tk.filter fun t => decide (t.2.1 = c)).map fun t => .tup [.tup (dS t.2.2), .int (dpF s t.1)])
def worD (s : Se) (c : Str) : D := .lst (dS ((s.ti.filter fun p => decide (p.1 = c)).map (·.2)))
def SN : List Str := ["guests", "depths", "takings", "ties", "_limits", "_worse"]
def SF (s : Se) : List D := [.tup (dS s.g), .tup (dI s.dp), .tup (s.tk.map eK), .tup (s.ti.map eP), dK s.g (limD s), dK s.g (worD s)]
def SOb (s : Se) : D := .obj "Seen" SN (SF s)
def OSb (s : Se) : Ob := .ins "Seen" SN (SF s)
@[simp] theorem OSb_d (s : Se) : (OSb s).d = SOb s := rfl
@[simp] theorem fs_g (s : Se) : fldD ["Seen"] "guests" (SOb s) = some (.tup (dS s.g)) := by rfl
@[simp] theorem fs_d (s : Se) : fldD ["Seen"] "depths" (SOb s) = some (.tup (dI s.dp)) := by rfl
@[simp] theorem fs_t (s : Se) : fldD ["Seen"] "takings" (SOb s) = some (.tup (s.tk.map eK)) := by rfl
@[simp] theorem fs_i (s : Se) : fldD ["Seen"] "ties" (SOb s) = some (.tup (s.ti.map eP)) := by rfl
@[simp] theorem fs_l (s : Se) : fldD ["Seen"] "_limits" (SOb s) = some (dK s.g (limD s)) := by rfl
@[simp] theorem fs_w (s : Se) : fldD ["Seen"] "_worse" (SOb s) = some (dK s.g (worD s)) := by rfl
abbrev isNm (x : Str) : Prop := M_is_name [.str x] = .ok (.bl true)
/-- a seen thing whose names are names -/
structure Se.Nm (s : Se) : Prop extends s.Ok where
  isnm : ∀ x ∈ s.g, isNm x
theorem frozen_names {n : Nat} {g : List Str} (hl : g.length ≤ 1000) {d : D} (hd : d = .lst (dS g) ∨ d = .tup (dS g)) : M_frozen (n + 2) [d] = .ok (.tup (dS g)) := by
  have z := frozen_seq (n := n + 1) (xs := dS g) hd (by simp; omega) id fun x hx => by
    obtain ⟨s, _, rfl⟩ := List.mem_map.mp hx
    exact frozen_leaf rfl
  simpa using z
theorem frozen_ints {n : Nat} {w : List Int} (hl : w.length ≤ 1000) {d : D} (hd : d = .lst (dI w) ∨ d = .tup (dI w)) : M_frozen (n + 2) [d] = .ok (.tup (dI w)) := by
  have z := frozen_seq (n := n + 1) (xs := dI w) hd (by simp; omega) id fun x hx => by
    obtain ⟨s, _, rfl⟩ := List.mem_map.mp hx
    exact frozen_leaf rfl
  simpa using z
theorem names_ok {g : List Str} (hn : ∀ x ∈ g, isNm x) (hd : g.Nodup) (hl : g.length ≤ 1000) {d : D} (hdd : d = .lst (dS g) ∨ d = .tup (dS g)) : M_own_names [d] = .ok (.tup (dS g)) := by
  simp [M_own_names, m_own_names, frozen_names (n := 3) hl hdd]
  generalize hr : loopM _ _ _ = r
  obtain ⟨e, rfl, c, rfl⟩ := loop_for hr g .str 1 (by simp [Function.comp_def]) (fun k env => ∃ c, env = [.sh (.tup (dS g)), c, .un]) ⟨_, rfl⟩ (by
    rintro k env hk ⟨c, rfl⟩
    refine ⟨[.sh (.tup (dS g)), .sh (.str g[k]), .un], ?_, _, rfl⟩
    simp [hn g[k] (List.getElem_mem hk)])
  simp
  generalize hr : loopM _ _ _ = r
  obtain ⟨e, rfl, c, c2, rfl⟩ := loop_enum hr (fun k env => ∃ c c2, env = [.sh (.tup (dS g)), c, c2]) ⟨_, _, rfl⟩ (by
    rintro k env hk ⟨c, c2, rfl⟩
    simp at hk
    refine ⟨[.sh (.tup (dS g)), .sh (.str g[k]), .sh (.int (k : Int))], [.sh (.tup (dS g)), .sh (.str g[k]), .sh (.int (k : Int))], by simp [tg2], ?_, _, _, rfl⟩
    have hni : ¬ g[k] ∈ g.take k := fun q => by
      obtain ⟨j, hj⟩ := List.getElem?_of_mem q
      rw [List.getElem?_take] at hj
      by_cases hjk : j < k
      · rw [if_pos hjk] at hj
        have := (List.getElem?_inj (by omega) hd).mp (hj.trans (List.getElem?_eq_getElem hk).symm)
        omega
      · rw [if_neg hjk] at hj; cases hj
    simp
    rw [sl_takeT, dS_take]
    simp only [rb_ok]
    rw [in_strT]
    simp [hni])
  simp
theorem depths_ok {w : List Int} (h : ∀ d ∈ w, 1 ≤ d) : M_checked_depths [.tup (dI w)] = .ok (.tup (dI w)) := by
  simp [M_checked_depths, m_checked_depths]
  generalize hr : loopM _ _ _ = r
  obtain ⟨e, rfl, c, rfl⟩ := loop_for hr w .int 1 (by simp [Function.comp_def]) (fun k env => ∃ c, env = [.sh (.tup (dI w)), c]) ⟨_, rfl⟩ (by
    rintro k env hk ⟨c, rfl⟩
    refine ⟨[.sh (.tup (dI w)), .sh (.int w[k])], ?_, _, rfl⟩
    have := h w[k] (List.getElem_mem hk)
    have h2 : ¬ w[k] < 1 := by omega
    simp [h2])
  simp
theorem Se.Ok.kOk {s : Se} (hs : s.Ok) {t : Tk} (ht : t ∈ s.tk) : sOk t.1 ∧ sOk t.2.1 ∧ ∀ x ∈ t.2.2, sOk x := by
  obtain ⟨h1, h2, _⟩ := hs.tg t ht
  have h3 := (hs.hs ht).1
  exact ⟨hs.nm _ h1, hs.nm _ (h3 _ h2), fun x hx => hs.nm _ (h3 x hx)⟩
theorem takings_ok {s : Se} (hs : s.Ok) : M_checked_takings [.tup (dS s.g), .tup (s.tk.map eK)] = .ok (.tup (s.tk.map eK)) := by
  have hgl := hs.gl
  simp [M_checked_takings, m_checked_takings]
  generalize hr : loopM _ _ _ = r
  obtain ⟨e, rfl, c2, c3, c4, c5, c6, rfl⟩ := loop_enum hr (fun k env => ∃ c2 c3 c4 c5 c6, env = [.sh (.tup (dS s.g)), .sh (.tup (s.tk.map eK)), c2, c3, c4, c5, c6, .un]) ⟨_, _, _, _, _, rfl⟩ (by
    rintro k env hk ⟨c2, c3, c4, c5, c6, rfl⟩
    simp at hk
    have ht := List.getElem_mem hk
    obtain ⟨h1, h2, h3⟩ := hs.tg _ ht
    obtain ⟨o1, o2, o3⟩ := hs.kOk ht
    have hn : (D.tup (s.tk[k].2.2.map D.str)) = .tup (dS s.tk[k].2.2) := rfl
    refine ⟨[.sh (.tup (dS s.g)), .sh (.tup (s.tk.map eK)), .sh (.int (k : Int)), c3, .sh (.str s.tk[k].1), .sh (.str s.tk[k].2.1), .sh (.tup (dS s.tk[k].2.2)), .un], [.sh (.tup (dS s.g)), .sh (.tup (s.tk.map eK)), .sh (.int (k : Int)), .sh (.tup (dS s.tk[k].2.2)), .sh (.str s.tk[k].1), .sh (.str s.tk[k].2.1), .sh (.tup (dS s.tk[k].2.2)), .un], ?_, ?_, _, _, _, _, _, rfl⟩
    · simp only [List.getElem_map]
      rfl
    · simp
      rw [e_szB _ (by omega)]
      simp
      generalize hq : compL _ _ _ _ = r
      have z := comp_map hq s.g (fun x => tgName 7 (.str x)) (fun x => decide (x ∈ s.tk[k].2.2)) .str (by simp [Function.comp_def]) (fun y hy => ⟨_, rfl, by simp, fun _ => by simp⟩)
      subst z
      rw [← h3]
      simp [h1, h2]
      rw [ne_tS o3 o3]
      simp)
  simp
theorem eP_len (p : Str × Str) : lenD (eP p) = .ok (.int 2) := rfl
theorem it_eP (p : Str × Str) : itemsD (eP p) = .ok [.str p.1, .str p.2] := rfl
theorem ties_ok {s : Se} (hs : s.Ok) : M_checked_ties [.tup (dS s.g), .tup (s.ti.map eP)] = .ok (.tup (s.ti.map eP)) := by
  simp [M_checked_ties, m_checked_ties]
  generalize hr : loopM _ _ _ = r
  obtain ⟨e, rfl, c2, c3, rfl⟩ := loop_enum hr (fun k env => ∃ c2 c3, env = [.sh (.tup (dS s.g)), .sh (.tup (s.ti.map eP)), c2, c3, .un]) ⟨_, _, rfl⟩ (by
    rintro k env hk ⟨c2, c3, rfl⟩
    simp at hk
    obtain ⟨h1, h2, h3⟩ := hs.ig _ (List.getElem_mem hk)
    refine ⟨[.sh (.tup (dS s.g)), .sh (.tup (s.ti.map eP)), .sh (.int (k : Int)), .sh (eP s.ti[k]), .un], [.sh (.tup (dS s.g)), .sh (.tup (s.ti.map eP)), .sh (.int (k : Int)), .sh (eP s.ti[k]), .un], ?_, ?_, _, _, rfl⟩
    · simp only [List.getElem_map]
      rfl
    · simp [eP_len, ix_P0, ix_P1, eq_ss (hs.nm _ h1) (hs.nm _ h2), h3, it_eP]
      generalize hq : compL _ _ _ _ = r
      have z := comp_all hq [s.ti[k].1, s.ti[k].2] (fun x => tgName 4 (.str x)) (fun x => .bl (decide (x ∈ s.g))) rfl (fun y hy => ⟨_, rfl, rfl, by simp⟩)
      subst z
      simp
      rw [show [D.bl (decide (s.ti[k].1 ∈ s.g)), D.bl (decide (s.ti[k].2 ∈ s.g))] = [s.ti[k].1, s.ti[k].2].map (fun x => D.bl (decide (x ∈ s.g))) from rfl, allD_map]
      simp [h1, h2])
  simp
theorem zip_names {g : List Str} : ∀ {w : List Int}, w.length = g.length → zipD (dS g) (dI w) = (g.zip w).map fun q => .tup [.str q.1, .int q.2] := by
  induction g with
  | nil => intro w h; cases w <;> rfl
  | cons x g ih =>
    intro w h
    cases w with
    | nil => cases h
    | cons i w =>
      have := ih (w := w) (by simpa using h)
      simp only [List.map_cons, zipD, List.zip_cons_cons, this]
theorem zip_get {g : List Str} : ∀ {w : List Int}, w.length = g.length → ∀ {a : Str}, a ∈ g → getD' (.inr a) ((g.zip w).map fun q => Sum.inr q.1) ((g.zip w).map fun q => D.int q.2) = some (.int ((w[ix a g]?).getD 0)) := by
  induction g with
  | nil => intro w h a ha; cases ha
  | cons x g ih =>
    intro w h a ha
    cases w with
    | nil => cases h
    | cons i w =>
      simp only [List.zip_cons_cons, List.map_cons, getD']
      by_cases e : x = a
      · subst e
        simp [ix]
      · have e2 : ¬ (Sum.inr x : Key) = Sum.inr a := fun q => e (by cases q; rfl)
        rw [if_neg e2, ih (w := w) (by simpa using h) ((List.mem_cons.mp ha).resolve_left fun q => e q.symm)]
        simp [ix, e]
theorem limits_ok {s : Se} (hs : s.Ok) : M_limits [.tup (dS s.g), .tup (s.tk.map eK), .tup (dI s.dp)] = .ok (dK s.g (limD s)) := by
  have hgl := hs.gl
  have htl := hs.tl
  have hdl := hs.dl
  simp [M_limits, m_limits, e_mDComp]
  rw [e_zipT _ _ _ _ (dS s.g) (dI s.dp) (by simp) (by simp), zip_names hdl]
  simp
  rw [e_szB _ (by omega)]
  simp
  have z := compD_at (mt := fun _ => Res.ok true) (mk := mVar 5) (mv := mVar 6) (env := [.sh (.tup (dS s.g)), .sh (.tup (s.tk.map eK)), .sh (.tup (dI s.dp)), .un, .un, .un, .un, .un, .un]) (fun q : Str × Int => tgTup [tgName 5, tgName 6] (.tup [.str q.1, .int q.2])) (fun q => q.1) (fun q => .int q.2) (s.g.zip s.dp) [] [] (fun x hx => ⟨_, tg2 _ _ _ _ _, rfl, by simp, by simp⟩) (by
    rw [List.map_fst_zip (by omega)]; exact hs.nd) (fun x _ q => by cases q)
  simp only [List.nil_append] at z
  have e0 : (tgTup [tgName 5, tgName 6] ∘ fun q : Str × Int => D.tup [D.str q.1, D.int q.2]) = fun q : Str × Int => tgTup [tgName 5, tgName 6] (.tup [.str q.1, .int q.2]) := rfl
  rw [e0, z]
  simp [e_mDComp]
  rw [e_szB _ (by omega)]
  simp
  have z2 := compD_at (mt := fun _ => Res.ok true) (mk := mVar 4) (mv := mFz (mComp (mSeqI (mVar 1) (tgTup [(tgName 5), (tgName 7), (tgName 8)])) [5, 7, 8] (mTest (mOp eqD (mVar 7) (mVar 4))) (mTupL (mCons (mVar 8) (mCons (mOp dgetD (mVar 3) (mVar 5)) mNil)))))
    (env := [.sh (.tup (dS s.g)), .sh (.tup (s.tk.map eK)), .sh (.tup (dI s.dp)), .sh (.dct ((s.g.zip s.dp).map fun q => Sum.inr q.1) ((s.g.zip s.dp).map fun q => D.int q.2)), .un, .un, .un, .un, .un]) (fun x : Str => tgName 4 (.str x)) (fun x => x) (limD s) s.g [] [] (fun x hx => ⟨_, rfl, rfl, by simp, by
      simp
      rw [e_szB _ (by omega)]
      simp
      generalize hq : compL _ _ _ _ = r
      have z := comp_map hq s.tk (fun t => tgTup [tgName 5, tgName 7, tgName 8] (eK t)) (fun t => decide (t.2.1 = x)) (fun t => .tup [.tup (dS t.2.2), .int (dpF s t.1)]) rfl (fun t ht => ⟨_, tg3 _ _ _ _ _ _ _, by
        obtain ⟨o1, o2, o3⟩ := hs.kOk ht
        simp [eq_ss o2 (hs.nm _ hx)], fun _ => by
        have hz : dgetD (.dct ((s.g.zip s.dp).map fun q => Sum.inr q.1) ((s.g.zip s.dp).map fun q => D.int q.2)) (.str t.1) = some (.int (dpF s t.1)) := zip_get hdl (hs.tg t ht).1
        simp [hz]⟩)
      subst z
      rfl⟩) (by rw [List.map_id']; exact hs.nd) (fun x _ q => by cases q)
  simp only [List.nil_append] at z2
  have e1 : s.g.map (tgName 4 ∘ D.str) = s.g.map fun x => tgName 4 (.str x) := rfl
  rw [e1, z2]
  rfl
end Pl

set_option autoImplicit true
set_option Elab.async false
set_option linter.all false
set_option maxRecDepth 100000
set_option maxHeartbeats 4000000
namespace Pl
open PySem Sm K49 L2
def strsOf : List D → Option (List Str)
  | [] => some []
  | .str x :: xs => (strsOf xs).map (x :: ·)
  | _ => none
theorem strsOf_eq : ∀ {xs : List D} {g : List Str}, strsOf xs = some g → xs = dS g
  | [], g, h => by cases h; rfl
  | .str x :: xs, g, h => by
    unfold strsOf at h
    cases q : strsOf xs with
    | none => rw [q] at h; cases h
    | some g' =>
      rw [q] at h
      cases h
      rw [strsOf_eq q]
      rfl
  | .non :: xs, g, h => by simp [strsOf] at h
  | .bl _ :: xs, g, h => by simp [strsOf] at h
  | .int _ :: xs, g, h => by simp [strsOf] at h
  | .tup _ :: xs, g, h => by simp [strsOf] at h
  | .lst _ :: xs, g, h => by simp [strsOf] at h
  | .scr _ :: xs, g, h => by simp [strsOf] at h
  | .obj _ _ _ :: xs, g, h => by simp [strsOf] at h
  | .dct _ _ :: xs, g, h => by simp [strsOf] at h
  | .dtt _ _ :: xs, g, h => by simp [strsOf] at h
  | .err _ _ _ :: xs, g, h => by simp [strsOf] at h
def isOkB (r : Res D) : Bool := match r with
  | .ok (.bl true) => true
  | _ => false
theorem isOkB_eq {r : Res D} (h : isOkB r = true) : r = .ok (.bl true) := by
  unfold isOkB at h
  split at h
  · rfl
  · cases h
def ndB : List Str → Bool
  | [] => true
  | x :: xs => (xs.all fun y => !(x.cps.toList == y.cps.toList)) && ndB xs
theorem ndB_eq : ∀ {xs : List Str}, ndB xs = true → xs.Nodup
  | [], _ => List.nodup_nil
  | x :: xs, h => by
    unfold ndB at h
    rw [Bool.and_eq_true, List.all_eq_true] at h
    rw [List.nodup_cons]
    refine ⟨fun hx => ?_, ndB_eq h.2⟩
    have := h.1 x hx
    simp at this
def namesB (d m : Nat) : Bool := match M_law_names [.int (d : Int), .int (m : Int)] with
  | .ok (.lst xs) => (match strsOf xs with
    | some g => ndB g && (g.length == m) && g.all fun x => PyData.strOk x && isOkB (M_is_name [.str x])
    | none => false)
  | _ => false
theorem names_0 : ((List.range' 0 10).all fun d => (List.range 13).all fun m => namesB d m) = true := by decide +kernel
theorem names_1 : ((List.range' 10 10).all fun d => (List.range 13).all fun m => namesB d m) = true := by decide +kernel
theorem names_2 : ((List.range' 20 10).all fun d => (List.range 13).all fun m => namesB d m) = true := by decide +kernel
theorem names_3 : ((List.range' 30 10).all fun d => (List.range 13).all fun m => namesB d m) = true := by decide +kernel
theorem names_4 : ((List.range' 40 10).all fun d => (List.range 13).all fun m => namesB d m) = true := by decide +kernel
theorem names_5 : ((List.range' 50 10).all fun d => (List.range 13).all fun m => namesB d m) = true := by decide +kernel
theorem names_6 : ((List.range' 60 10).all fun d => (List.range 13).all fun m => namesB d m) = true := by decide +kernel
theorem names_7 : ((List.range' 70 10).all fun d => (List.range 13).all fun m => namesB d m) = true := by decide +kernel
theorem names_8 : ((List.range' 80 10).all fun d => (List.range 13).all fun m => namesB d m) = true := by decide +kernel
theorem names_9 : ((List.range' 90 10).all fun d => (List.range 13).all fun m => namesB d m) = true := by decide +kernel
theorem names_10 : ((List.range' 100 10).all fun d => (List.range 13).all fun m => namesB d m) = true := by decide +kernel
theorem names_11 : ((List.range' 110 10).all fun d => (List.range 13).all fun m => namesB d m) = true := by decide +kernel
theorem names_all {d : Nat} (hd : d < 120) : ((List.range 13).all fun m => namesB d m) = true := by
  have key : ∀ c : Nat, ((List.range' (10 * c) 10).all fun d => (List.range 13).all fun m => namesB d m) = true → d / 10 = c → ((List.range 13).all fun m => namesB d m) = true := fun c h e => by
    rw [List.all_eq_true] at h
    exact h d (List.mem_range'_1.mpr ⟨by omega, by omega⟩)
  have h12 : d / 10 < 12 := by omega
  generalize hq : d / 10 = q at h12
  match q, h12, hq with
  | 0, _, hq => exact key 0 names_0 hq
  | 1, _, hq => exact key 1 names_1 hq
  | 2, _, hq => exact key 2 names_2 hq
  | 3, _, hq => exact key 3 names_3 hq
  | 4, _, hq => exact key 4 names_4 hq
  | 5, _, hq => exact key 5 names_5 hq
  | 6, _, hq => exact key 6 names_6 hq
  | 7, _, hq => exact key 7 names_7 hq
  | 8, _, hq => exact key 8 names_8 hq
  | 9, _, hq => exact key 9 names_9 hq
  | 10, _, hq => exact key 10 names_10 hq
  | 11, _, hq => exact key 11 names_11 hq
theorem lawnames_ok {d m : Nat} (hd : d < 120) (hm : m ≤ 12) : ∃ g : List Str, M_law_names [.int (d : Int), .int (m : Int)] = .ok (.lst (dS g)) ∧ g.Nodup ∧ g.length = m ∧ ∀ x ∈ g, sOk x ∧ isNm x := by
  have h := names_all hd
  rw [List.all_eq_true] at h
  have h := h m (List.mem_range.mpr (by omega))
  unfold namesB at h
  split at h
  · rename_i xs e
    split at h
    · rename_i g eg
      rw [strsOf_eq eg] at e
      simp only [Bool.and_eq_true, List.all_eq_true, beq_iff_eq] at h
      exact ⟨g, e, ndB_eq h.1.1, h.1.2, fun x hx => ⟨(h.2 x hx).1, isOkB_eq (h.2 x hx).2⟩⟩
    · cases h
  · cases h
end Pl

set_option autoImplicit true
set_option Elab.async false
set_option linter.all false
set_option maxRecDepth 100000
set_option maxHeartbeats 4000000
namespace Pl
open PySem Sm K49 L2
theorem cSeen : (["Seen"] : List Str).contains "Seen" = true := by decide +kernel
theorem cPeel : (["Peel"] : List Str).contains "Peel" = true := by decide +kernel
/-- the arguments, as they may be passed -/
structure Arg (s : Se) (dg dt dd di : D) : Prop where
  g : dg = .lst (dS s.g) ∨ dg = .tup (dS s.g)
  d : dd = .lst (dI s.dp) ∨ dd = .tup (dI s.dp)
  t : M_frozen 5 [dt] = .ok (.tup (s.tk.map eK))
  i : M_frozen 5 [di] = .ok (.tup (s.ti.map eP))
theorem seen_init {s : Se} (hs : s.Nm) {dg dt dd di : D} (ha : Arg s dg dt dd di) : M_Seen___init__ [dg, dt, dd, di] = .ok (OSb s) := by
  have hgl := hs.gl
  have htl := hs.tl
  have hil := hs.il
  have hnm := names_ok hs.isnm hs.nd (by omega) ha.g
  have hfd : M_frozen 5 [dd] = .ok (.tup (dI s.dp)) := frozen_ints (n := 3) (by have := hs.dl; omega) ha.d
  have hcd := depths_ok hs.dpos
  have hct := takings_ok hs.toOk
  have hci := ties_ok hs.toOk
  have hl := limits_ok hs.toOk
  refine e_runI _ _ _ _ _ [.ow (OSb s), .sh dg, .sh dt, .sh dd, .sh di, .un, .un, .un] _ rfl ?_ rfl
  have en : envI "Seen" 8 [dg, dt, dd, di] = [.ow (.ins "Seen" [] []), .sh dg, .sh dt, .sh dd, .sh di, .un, .un, .un] := rfl
  rw [en]
  have b0 : Nat.blt 0 1000 = true := rfl
  have b1 : Nat.blt 1 1000 = true := rfl
  have b2 : Nat.blt 2 1000 = true := rfl
  have b3 : Nat.blt 3 1000 = true := rfl
  have b4 : Nat.blt 4 1000 = true := rfl
  have b5 : Nat.blt 5 1000 = true := rfl
  have p0 : putN "guests" [] = (["guests"] : List Str) := rfl
  have q0 : ∀ x, putD "guests" x [] [] = [x] := fun _ => rfl
  have p1 : putN "depths" ["guests"] = (["guests", "depths"] : List Str) := by decide +kernel
  have q1 : ∀ a x, putD "depths" x ["guests"] [a] = [a, x] := fun _ _ => rfl
  have p2 : putN "takings" ["guests", "depths"] = (["guests", "depths", "takings"] : List Str) := by decide +kernel
  have q2 : ∀ a b x, putD "takings" x ["guests", "depths"] [a, b] = [a, b, x] := fun _ _ _ => rfl
  have p3 : putN "ties" ["guests", "depths", "takings"] = (["guests", "depths", "takings", "ties"] : List Str) := by decide +kernel
  have q3 : ∀ a b c x, putD "ties" x ["guests", "depths", "takings"] [a, b, c] = [a, b, c, x] := fun _ _ _ _ => rfl
  have p4 : putN "_limits" ["guests", "depths", "takings", "ties"] = (["guests", "depths", "takings", "ties", "_limits"] : List Str) := by decide +kernel
  have q4 : ∀ a b c d x, putD "_limits" x ["guests", "depths", "takings", "ties"] [a, b, c, d] = [a, b, c, d, x] := fun _ _ _ _ _ => rfl
  have p5 : putN "_worse" ["guests", "depths", "takings", "ties", "_limits"] = SN := by decide +kernel
  have q5 : ∀ a b c d e x, putD "_worse" x ["guests", "depths", "takings", "ties", "_limits"] [a, b, c, d, e] = [a, b, c, d, e, x] := fun _ _ _ _ _ _ => rfl
  have lk : ∀ (d : D) (r : List Str) (ds : List D), lookD "guests" ("guests" :: r) (d :: ds) = some d := fun d r ds => by simp [lookD]
  have lk2 : ∀ (a b c : D) (r : List Str) (ds : List D), lookD "takings" ("guests" :: "depths" :: "takings" :: r) (a :: b :: c :: ds) = some c := fun _ _ _ _ _ => rfl
  have lk3 : ∀ (a b : D) (r : List Str) (ds : List D), lookD "depths" ("guests" :: "depths" :: r) (a :: b :: ds) = some b := fun _ _ _ _ => rfl
  have lk4 : ∀ (a b c d : D) (r : List Str) (ds : List D), lookD "ties" ("guests" :: "depths" :: "takings" :: "ties" :: r) (a :: b :: c :: d :: ds) = some d := fun _ _ _ _ _ _ => rfl
  unfold m_Seen___init__
  simp [hnm, cSeen, b0, p0, q0, hfd, hcd, b1, p1, q1, lk, ha.t, hct, b2, p2, q2, ha.i, hci, b3, p3, q3, lk2, lk3, hl, b4, p4, q4, e_mDComp]
  rw [e_szB _ (by omega)]
  simp
  have z := compD_at (mt := fun _ => Res.ok true) (mk := mVar 5) (mv := mFz (mComp (mSeqI (mFldOw 0 ["Seen"] "ties") (tgTup [(tgName 6), (tgName 7)])) [6, 7] (mTest (mOp eqD (mVar 6) (mVar 5))) (mVar 7)))
    (env := [.ow (.ins "Seen" ["guests", "depths", "takings", "ties", "_limits"] [.tup (dS s.g), .tup (dI s.dp), .tup (s.tk.map eK), .tup (s.ti.map eP), dK s.g (limD s)]), .sh dg, .sh dt, .sh dd, .sh di, .un, .un, .un])
    (fun x : Str => tgName 5 (.str x)) (fun x => x) (worD s) s.g [] [] (fun x hx => ⟨_, rfl, rfl, by simp, by
      simp [cSeen, lk4]
      rw [e_szB _ (by omega)]
      simp
      generalize hq : compL _ _ _ _ = r
      have z := comp_map hq s.ti (fun p => tgTup [tgName 6, tgName 7] (eP p)) (fun p => decide (p.1 = x)) (fun p => .str p.2) rfl (fun p hp => ⟨_, tg2 _ _ _ _ _, by
        simp [eq_ss (hs.nm _ (hs.ig p hp).1) (hs.nm _ hx)], fun _ => by simp⟩)
      subst z
      simp [worD, Function.comp_def]⟩) (by rw [List.map_id']; exact hs.nd) (fun x _ q => by cases q)
  simp only [List.nil_append] at z
  have e1 : s.g.map (tgName 5 ∘ D.str) = s.g.map fun x => tgName 5 (.str x) := rfl
  rw [e1, z]
  simp [cSeen, b5, p5, q5]
  rfl
/-! ### held -/
theorem it_lim (s : Se) (c : Str) : itemsD (limD s c) = .ok ((s.tk.filter fun t => decide (t.2.1 = c)).map fun t => .tup [.tup (dS t.2.2), .int (dpF s t.1)]) := rfl
theorem it_wor (s : Se) (c : Str) : itemsD (worD s c) = .ok (dS ((s.ti.filter fun p => decide (p.1 = c)).map (·.2))) := rfl
theorem in_lot {d : D} {lot : List Str} (h : d = .lst (dS lot) ∨ d = .tup (dS lot)) (x : Str) : inY (.str x) d = some (.bl (decide (x ∈ lot))) := by
  rcases h with rfl | rfl
  · exact in_strL x lot
  · exact in_strT x lot
theorem held_split (s : Se) (lot : List Str) (c : Str) : heldF s lot c = (((s.tk.filter fun t => decide (t.2.1 = c)).any fun t => decide (dpF s t.1 < (cntF t.2.2 lot : Int))) || ((s.ti.filter fun p => decide (p.1 = c)).map (·.2)).any fun w => decide (w ∈ lot)) := by
  unfold heldF
  rw [List.any_filter, List.any_map, List.any_filter]
  rfl
theorem held_ok {s : Se} (hs : s.Ok) {c : Str} (hc : c ∈ s.g) {lot : List Str} {d : D} (hd : d = .lst (dS lot) ∨ d = .tup (dS lot)) : M_Seen_is_held [SOb s, .str c, d] = .ok (.bl (heldF s lot c)) := by
  have htl := hs.tl
  have hil := hs.il
  have dl : dgetD (dK s.g (limD s)) (.str c) = some (limD s c) := dget_map hc
  have dw : dgetD (dK s.g (worD s)) (.str c) = some (worD s c) := dget_map hc
  rw [held_split]
  obtain ⟨a, ha⟩ : ∃ a, a = (s.tk.filter fun t => decide (t.2.1 = c)).any fun t => decide (dpF s t.1 < (cntF t.2.2 lot : Int)) := ⟨_, rfl⟩
  obtain ⟨b, hb⟩ : ∃ b, b = (s.ti.filter fun p => decide (p.1 = c)).any fun p => decide (p.2 ∈ lot) := ⟨_, rfl⟩
  rw [← ha, List.any_map]
  rw [show ((fun w => decide (w ∈ lot)) ∘ fun p : Str × Str => p.2) = fun p => decide (p.2 ∈ lot) from rfl, ← hb]
  simp [M_Seen_is_held, m_Seen_is_held, dl, it_lim]
  have body : ∀ t ∈ s.tk, (mIfS (mTest (mOp gtX (mCB (f1 lenD) (mCons (mFz (mComp (mSeqI (mVar 3) (tgName 5)) [5] (mTest (mOp inY (mVar 5) (mVar 2))) (mVar 5))) mNil)) (mVar 4))) (mRet (mC (.bl true))) mNx) [.sh (SOb s), .sh (.str c), .sh d, .sh (.tup (dS t.2.2)), .sh (.int (dpF s t.1)), .un] =
      if decide (dpF s t.1 < (cntF t.2.2 lot : Int)) then .rt (.bl true) else .nx [.sh (SOb s), .sh (.str c), .sh d, .sh (.tup (dS t.2.2)), .sh (.int (dpF s t.1)), .un] := fun t ht => by
    have hl := (hs.hs ht).2.2
    simp
    rw [e_szB _ (by omega)]
    simp
    generalize hq : compL _ _ _ _ = r
    have z := comp_map hq t.2.2 (fun x => tgName 5 (.str x)) (fun x => decide (x ∈ lot)) .str (by simp [Function.comp_def]) (fun y hy => ⟨_, rfl, by simp [in_lot hd], fun _ => by simp⟩)
    subst z
    unfold cntF
    simp
  have z := loop_find (body := mIfS (mTest (mOp gtX (mCB (f1 lenD) (mCons (mFz (mComp (mSeqI (mVar 3) (tgName 5)) [5] (mTest (mOp inY (mVar 5) (mVar 2))) (mVar 5))) mNil)) (mVar 4))) (mRet (mC (.bl true))) mNx)
    (env0 := [.sh (SOb s), .sh (.str c), .sh d, .un, .un, .un]) (s.tk.filter fun t => decide (t.2.1 = c)) (fun t => tgTup [tgName 3, tgName 4] (.tup [.tup (dS t.2.2), .int (dpF s t.1)])) (fun t => decide (dpF s t.1 < (cntF t.2.2 lot : Int))) (.rt (.bl true))
    (fun env => ∃ c3 c4, env = [.sh (SOb s), .sh (.str c), .sh d, c3, c4, .un]) ⟨_, _, rfl⟩ (by
      rintro t env ht ⟨c3, c4, rfl⟩
      have ht' := (List.mem_filter.mp ht).1
      refine ⟨_, tg2 _ _ _ _ _, fun hx => ?_, fun hx => ⟨[.sh (SOb s), .sh (.str c), .sh d, .sh (.tup (dS t.2.2)), .sh (.int (dpF s t.1)), .un], ?_, _, _, rfl⟩⟩
      · exact (body t ht').trans (if_pos hx)
      · exact (body t ht').trans (by rw [hx]; rfl)) (fun e h => by cases h) (fun e h => by cases h) (fun e h => by cases h)
  have e0 : ((tgTup [tgName 3, tgName 4]) ∘ fun t : Tk => D.tup [.tup (dS t.2.2), .int (dpF s t.1)]) = fun t : Tk => tgTup [tgName 3, tgName 4] (.tup [.tup (dS t.2.2), .int (dpF s t.1)]) := rfl
  rw [e0]
  rw [← ha] at z
  cases a with
  | true =>
    rw [if_pos rfl] at z
    rw [z]
    simp
  | false =>
    rw [if_neg Bool.false_ne_true] at z
    obtain ⟨e, h1, c3, c4, rfl⟩ := z
    rw [h1]
    simp [dw, it_wor]
    rw [e_szB _ (by have := List.length_filter_le (fun p : Str × Str => decide (p.1 = c)) s.ti; omega)]
    simp
    generalize hq : compL _ _ _ _ = r
    have z := comp_all hq (s.ti.filter fun p => decide (p.1 = c)) (fun p => tgName 5 (.str p.2)) (fun p => .bl (decide (p.2 ∈ lot))) (by simp [Function.comp_def]) (fun y hy => ⟨_, rfl, rfl, by simp [in_lot hd]⟩)
    subst z
    simp only [rb_ok, e_f1]
    rw [anyD_map (fun p : Str × Str => decide (p.2 ∈ lot)), ← hb]
    simp
end Pl

set_option autoImplicit true
set_option Elab.async false
set_option linter.all false
set_option maxRecDepth 100000
set_option maxHeartbeats 4000000
namespace Pl
open PySem Sm K49 L2
theorem isOb_h (s : Se) : isOb "Seen" "is_held" (SOb s) = true := by rfl
theorem isOb_ti (s : Se) : isOb "Seen" "tied" (SOb s) = true := by rfl
theorem arr1 (a b : D) : arr [.p 0, .p 1] [a, b] [] [] [] = [a, b] := by rfl
theorem arr2 (a b c : D) : arr [.p 0, .p 1, .p 2] [a, b, c] [] [] [] = [a, b, c] := by rfl
def stuckF (s : Se) (lot : List Str) : Bool := decide (0 < lot.length) && lot.all fun c => heldF s lot c
theorem stuck_ok {s : Se} (hs : s.Ok) {lot : List Str} (hl : lot.length ≤ 1000) (hg : ∀ x ∈ lot, x ∈ s.g) {d : D} (hd : d = .lst (dS lot) ∨ d = .tup (dS lot)) : M_is_stuck [SOb s, d] = .ok (.bl (stuckF s lot)) := by
  have hf := frozen_names (n := 3) hl hd
  obtain ⟨b, hb⟩ : ∃ b, b = lot.all fun c => heldF s lot c := ⟨_, rfl⟩
  unfold stuckF
  rw [← hb]
  simp [M_is_stuck, m_is_stuck, hf]
  rw [e_szB _ (by omega)]
  simp
  generalize hq : compL _ _ _ _ = r
  have z := comp_all hq lot (fun x => tgName 2 (.str x)) (fun x => .bl (heldF s lot x)) (by simp [Function.comp_def]) (fun y hy => ⟨_, rfl, rfl, by
    simp [isOb_h, arr2, held_ok hs (hg y hy) (.inr rfl)]⟩)
  subst z
  simp only [rb_ok, e_f1]
  rw [allD_map (fun c => heldF s lot c), ← hb]
  cases h : decide (0 < lot.length) with
  | true => simp
  | false => simp
/-! ### peel -/
def optS' : Option Str → D
  | some c => .str c
  | none => .non
theorem lastFree_rev (s : Se) (L : List Str) : L.reverse.find? (fun c => !heldF s L c) = lastFree (heldF s) L := by
  unfold lastFree
  rw [← List.head?_filter, List.filter_reverse, List.head?_reverse]
theorem next_ok {s : Se} (hs : s.Ok) {L : List Str} (hg : ∀ x ∈ L, x ∈ s.g) : M_next_off [SOb s, .tup (dS L)] = .ok (optS' (lastFree (heldF s) L)) := by
  rw [← lastFree_rev]
  simp [M_next_off, m_next_off]
  have z := loop_first (body := mIfS (mNot (mTest (mOMeth "Seen" "is_held" M_Seen_is_held 2 0 [.p 0, .p 1, .p 2] [] [] (mVar 0) (mCons (mVar 2) (mCons (mVar 1) mNil)) mNil))) (mRet (mVar 2)) mNx)
    (env0 := [.sh (SOb s), .sh (.tup (dS L)), .un]) L.reverse (fun x => tgName 2 (.str x)) (fun c => !heldF s L c) (fun x => .rt (.str x)) (fun env => ∃ c, env = [.sh (SOb s), .sh (.tup (dS L)), c]) ⟨_, rfl⟩ (by
      rintro x env hx ⟨c, rfl⟩
      have hx' := hg x (List.mem_reverse.mp hx)
      refine ⟨_, rfl, fun hb => ?_, fun hb => ⟨[.sh (SOb s), .sh (.tup (dS L)), .sh (.str x)], ?_, _, rfl⟩⟩
      · have hb' : heldF s L x = false := by simpa using hb
        simp [isOb_h, arr2, held_ok hs hx' (.inr rfl), hb']
      · have hb' : heldF s L x = true := by simpa using hb
        simp [isOb_h, arr2, held_ok hs hx' (.inr rfl), hb']) (fun x e h => by cases h) (fun x e h => by cases h) (fun x e h => by cases h)
  have e0 : (L.map (tgName 2 ∘ D.str)).reverse = L.reverse.map fun x => tgName 2 (.str x) := by
    rw [← List.map_reverse]; rfl
  rw [e0]
  cases q : L.reverse.find? (fun c => !heldF s L c) with
  | some x =>
    rw [q] at z
    simp only at z
    rw [z]
    rfl
  | none =>
    rw [q] at z
    obtain ⟨e, h1, c, rfl⟩ := z
    rw [h1]
    simp [optS']
abbrev wBody : En → SR := (mSeq (mSet 1 (mCB (f1 tupleD) (mCons (mFz (mComp (mSeqI (mVar 1) (tgName 4)) [4] (mTest (mOp neD (mVar 4) (mVar 3))) (mVar 4))) mNil)))
  (mSeq (mSet 2 (mOp addD (mTupL (mCons (mVar 3) mNil)) (mVar 2)))
  (mSet 3 (mCall M_next_off [] (mCons (mVar 0) (mCons (mVar 1) mNil))))))
theorem addT (xs ys : List D) (h : xs.length + ys.length ≤ 2000) : addD (.tup xs) (.tup ys) = some (.tup (xs ++ ys)) := by
  show (if szB (xs.length + ys.length) = true then some (D.tup (xs ++ ys)) else none) = _
  rw [e_szB _ (by omega)]; rfl
theorem notN_opt (o : Option Str) : notN (optS' o) .non = some (.bl o.isSome) := by cases o <;> rfl
theorem peel_loop {s : Se} (hs : s.Ok) : ∀ (n f : Nat) (L o : List Str) (c4 : Cl), L.Nodup → (∀ x ∈ L, x ∈ s.g) → L.length ≤ n → n < f → o.length + L.length ≤ 1000 →
    ∃ c, whileM (mTest (mOp notN (mVar 3) (mC .non))) wBody f [.sh (SOb s), .sh (.tup (dS L)), .sh (.tup (dS o)), .sh (optS' (lastFree (heldF s) L)), c4] = .nx [.sh (SOb s), .sh (.tup (dS (peelF (heldF s) n L o).1)), .sh (.tup (dS (peelF (heldF s) n L o).2)), .sh .non, c] := by
  intro n
  induction n with
  | zero =>
    intro f L o c4 _ _ hl hf _
    have : L = [] := List.eq_nil_of_length_eq_zero (by omega)
    subst this
    obtain ⟨f, rfl⟩ : ∃ k, f = k + 1 := ⟨f - 1, by omega⟩
    refine ⟨c4, ?_⟩
    rw [whileM_step]
    have : lastFree (heldF s) [] = none := rfl
    simp [this, optS', peelF]
  | succ n ih =>
    intro f L o c4 nd hg hl hf ho
    obtain ⟨f, rfl⟩ : ∃ k, f = k + 1 := ⟨f - 1, by omega⟩
    rw [whileM_step]
    unfold peelF
    cases q : lastFree (heldF s) L with
    | none =>
      refine ⟨c4, ?_⟩
      simp [optS']
    | some c =>
      obtain ⟨h1, h2⟩ := lastFree_some q
      have hlen := off_length nd h1
      have hg' : ∀ x ∈ off c L, x ∈ s.g := fun x hx => hg x (mem_off.mp hx).1
      obtain ⟨cc, hw⟩ := ih f (off c L) (c :: o) c4 (nd.filter _) hg' (by omega) (by omega) (by simp; omega)
      refine ⟨cc, ?_⟩
      have hL : L.length ≤ 1000 := by omega
      simp [optS']
      rw [e_szB _ (by omega)]
      simp
      generalize hq : compL _ _ _ _ = r
      have z := comp_map hq L (fun x => tgName 4 (.str x)) (fun x => !decide (x = c)) .str (by simp [Function.comp_def]) (fun y hy => ⟨_, rfl, by simp [ne_ss (hs.nm _ (hg y hy)) (hs.nm _ (hg c h1))], fun _ => by simp⟩)
      subst z
      simp
      rw [show (L.filter fun x => !decide (x = c)) = off c L from rfl]
      rw [show (D.tup ((off c L).map D.str)) = .tup (dS (off c L)) from rfl]
      rw [addT _ _ (by simp; omega)]
      simp
      rw [next_ok hs hg']
      simp
      exact hw
/-! the result -/
def PN : List Str := ["order", "left"]
def ordD (s : Se) : D := if leftF s = [] then .tup (dS (ordF s)) else .non
def POb (s : Se) : D := .obj "Peel" PN [ordD s, .tup (dS (leftF s))]
@[simp] theorem fp_o (s : Se) : fldD ["Peel"] "order" (POb s) = some (ordD s) := by rfl
@[simp] theorem fp_l (s : Se) : fldD ["Peel"] "left" (POb s) = some (.tup (dS (leftF s))) := by rfl
theorem Peel_init (a b : D) : M_Peel___init__ [a, b] = .ok (.ins "Peel" PN [a, b]) := by
  refine e_runI _ _ _ _ _ [.ow (.ins "Peel" PN [a, b]), .sh a, .sh b] _ rfl ?_ rfl
  have en : envI "Peel" 3 [a, b] = [.ow (.ins "Peel" [] []), .sh a, .sh b] := rfl
  rw [en]
  have b0 : Nat.blt 0 1000 = true := rfl
  have b1 : Nat.blt 1 1000 = true := rfl
  have p0 : putN "order" [] = (["order"] : List Str) := rfl
  have q0 : ∀ x, putD "order" x [] [] = [x] := fun _ => rfl
  have p1 : putN "left" ["order"] = PN := by decide +kernel
  have q1 : ∀ a x, putD "left" x ["order"] [a] = [a, x] := fun _ _ => rfl
  unfold m_Peel___init__
  simp [cPeel, b0, p0, q0, b1, p1, q1]
theorem tru_tup (xs : List D) (h : xs.length ≤ 1000) : truB (.tup xs) = .ok (!xs.isEmpty) := by
  rfl
theorem peel_ok {s : Se} (hs : s.Ok) : M_peel [SOb s] = .ok (POb s) := by
  have hgl := hs.gl
  have hn := next_ok hs (L := s.g) (fun x h => h)
  obtain ⟨c, hw⟩ := peel_loop hs s.g.length 40 s.g [] .un hs.nd (fun x h => h) (Nat.le_refl _) (by omega) (by simp; omega)
  simp [M_peel, m_peel, hn]
  rw [show (D.tup []) = .tup (dS []) from rfl, hw]
  rw [show (peelF (heldF s) s.g.length s.g []).1 = leftF s from rfl, show (peelF (heldF s) s.g.length s.g []).2 = ordF s from rfl]
  have hl : leftF s = [] ∨ leftF s ≠ [] := Classical.em _
  rcases hl with hl | hl
  · have ht : truB (.tup (dS (leftF s))) = .ok false := by rw [hl]; rfl
    simp [arr1, Peel_init, ht]
    simp [POb, ordD, hl]
  · have ht : truB (.tup (dS (leftF s))) = .ok true := by
      cases q : leftF s with
      | nil => exact absurd q hl
      | cons a l => rfl
    simp [arr1, Peel_init, ht]
    simp [POb, ordD, hl]
theorem tied_ok {s u : Se} (hs : s.Nm) (hu : u.Nm) {a b : Str} (hg : u.g = s.g) (ht : u.tk = s.tk) (hd : u.dp = s.dp) (hi : u.ti = s.ti ++ [(a, b)]) (h1 : M_frozen 5 [.tup (s.tk.map eK)] = .ok (.tup (s.tk.map eK))) (h2 : M_frozen 5 [.tup (u.ti.map eP)] = .ok (.tup (u.ti.map eP))) :
    M_Seen_tied [SOb s, .str a, .str b] = .ok (OSb u) := by
  have hil := hu.il
  have hin := seen_init hu (dg := .tup (dS s.g)) (dt := .tup (s.tk.map eK)) (dd := .tup (dI s.dp)) (di := .tup (u.ti.map eP)) ⟨.inr (by rw [hg]), .inr (by rw [hd]), by rw [ht]; exact h1, h2⟩
  have hlen : s.ti.length + 1 ≤ 100 := by rw [hi] at hil; simpa using hil
  have ha : addD (.tup (s.ti.map eP)) (.tup [.tup [.str a, .str b]]) = some (.tup (u.ti.map eP)) := by
    rw [addT _ _ (by simp; omega), hi, List.map_append]
    rfl
  have ar : arr [.p 0, .p 1, .p 2, .p 3] [D.tup (dS s.g), D.tup (s.tk.map eK), D.tup (dI s.dp), D.tup (u.ti.map eP)] [.tup []] [] [] = [D.tup (dS s.g), D.tup (s.tk.map eK), D.tup (dI s.dp), D.tup (u.ti.map eP)] := by rfl
  simp [M_Seen_tied, m_Seen_tied, ha, ar, hin]
end Pl

set_option autoImplicit true
set_option Elab.async false
set_option linter.all false
set_option maxRecDepth 100000
set_option maxHeartbeats 4000000
namespace Pl
open PySem Sm K49 L2
@[simp] theorem eS0 (s : Se) : ixD (eS s) (.int 0) = some (.lst (dS s.g)) := rfl
@[simp] theorem eS1 (s : Se) : ixD (eS s) (.int 1) = some (.lst (s.tk.map eK)) := rfl
@[simp] theorem eS2 (s : Se) : ixD (eS s) (.int 2) = some (.lst (dI s.dp)) := rfl
@[simp] theorem eS3 (s : Se) : ixD (eS s) (.int 3) = some (.lst (s.ti.map eP)) := rfl
@[simp] theorem eK0 (t : Tk) : ixD (eK t) (.int 0) = some (.str t.1) := rfl
@[simp] theorem eK1 (t : Tk) : ixD (eK t) (.int 1) = some (.str t.2.1) := rfl
@[simp] theorem eK2 (t : Tk) : ixD (eK t) (.int 2) = some (.tup (dS t.2.2)) := rfl
@[simp] theorem okTL (xs : List D) : okT "list" (.lst xs) = true := rfl
theorem idxS {x : Str} {xs : List Str} (h : ∀ y ∈ xs, sOk y) (hx : x ∈ xs) : indexD (.lst (dS xs)) [.str x] = some (.int ((ix x xs : Nat) : Int)) := gS.index (h x hx) h hx
theorem dp_at {s : Se} (hs : s.Ok) {x : Str} (hx : x ∈ s.g) : s.dp[ix x s.g]? = some (dpF s x) := by
  have h1 := ix_lt hx
  have h2 := hs.dl
  unfold dpF
  rw [List.getElem?_eq_getElem (by omega)]
  rfl
theorem dpD_at {s : Se} (hs : s.Ok) {x : Str} (hx : x ∈ s.g) : ixD (.lst (dI s.dp)) (.int ((ix x s.g : Nat) : Int)) = some (.int (dpF s x)) := by
  rw [ix_L, List.getElem?_map, dp_at hs hx]; rfl
@[simp] theorem callT (F : List D → Res D) (dd : List D) (m : En → Res (List D)) (env : En) : mCallT F dd m env = (m env).bind fun ds => flat1 (F (ds ++ dd)) := ir rfl
@[simp] theorem flat1_bl (b : Bool) : flat1 (.ok (.bl b)) = .ok (.bl b) := ir rfl
theorem subset_ok {s : Se} (hs : s.Ok) {L : List Str} (h : ∀ x ∈ L, x ∈ s.g) : ∀ x ∈ L, sOk x := fun x hx => hs.nm x (h x hx)
/-! ### free -/
theorem lawfree_ok {s : Se} (hs : s.Ok) {c : Str} (hc : c ∈ s.g) {L : List Str} {d : D} (hd : d = .lst (dS L) ∨ d = .tup (dS L)) : M_law_free [eS s, d, .str c] = .ok (.bl (!heldF s L c)) := by
  obtain ⟨a, ha⟩ : ∃ a, a = s.tk.any fun t => decide (t.2.1 = c) && decide (dpF s t.1 < (cntF t.2.2 L : Int)) := ⟨_, rfl⟩
  obtain ⟨b, hb⟩ : ∃ b, b = s.ti.any fun p => decide (p.1 = c) && decide (p.2 ∈ L) := ⟨_, rfl⟩
  unfold heldF
  rw [← ha, ← hb]
  simp [M_law_free, m_law_free]
  generalize hB1 : (mIfS _ _ _ : En → SR) = B1
  generalize hB2 : (mIfS _ _ _ : En → SR) = B2
  have z := loop_find (body := B1)
    (env0 := [.sh (eS s), .sh d, .sh (.str c), .un, .un, .un, .un]) s.tk (fun t => tgName 3 (eK t)) (fun t => decide (t.2.1 = c) && decide (dpF s t.1 < (cntF t.2.2 L : Int))) (.rt (.bl false))
    (fun env => ∃ c3 c5, env = [.sh (eS s), .sh d, .sh (.str c), c3, .un, c5, .un]) ⟨_, _, rfl⟩ (by
      rintro t env ht ⟨c3, c5, rfl⟩
      obtain ⟨o1, o2, o3⟩ := hs.kOk ht
      have hl := (hs.hs ht).2.2
      have h1 := (hs.tg t ht).1
      have key : t.2.1 = c → B1 [.sh (eS s), .sh d, .sh (.str c), .sh (eK t), .un, c5, .un] = if decide (dpF s t.1 < (cntF t.2.2 L : Int)) then .rt (.bl false) else .nx [.sh (eS s), .sh d, .sh (.str c), .sh (eK t), .un, .sh (.int (cntF t.2.2 L : Nat)), .un] := fun e => by
        subst hB1
        simp [eq_ss o2 (hs.nm c hc), eq_ss (hs.nm c hc) (hs.nm c hc), e]
        rw [e_szB _ (by omega)]
        simp
        generalize hq : compL _ _ _ _ = r
        have z := comp_map hq t.2.2 (fun x => tgName 6 (.str x)) (fun x => decide (x ∈ L)) .str (by simp [Function.comp_def]) (fun y hy => ⟨_, rfl, by simp [in_lot hd], fun _ => by simp⟩)
        subst z
        have hcn : ((List.map D.str (List.filter (fun x => decide (x ∈ L)) t.2.2)).length : Int) = (cntF t.2.2 L : Nat) := by unfold cntF; rw [List.length_map]
        simp [idxS hs.nm h1, dpD_at hs h1]
        unfold cntF
        simp
      have key2 : t.2.1 ≠ c → B1 [.sh (eS s), .sh d, .sh (.str c), .sh (eK t), .un, c5, .un] = .nx [.sh (eS s), .sh d, .sh (.str c), .sh (eK t), .un, c5, .un] := fun e => by
        subst hB1
        simp [eq_ss o2 (hs.nm c hc), eq_ss (hs.nm c hc) (hs.nm c hc), e]
      refine ⟨_, rfl, fun hx => ?_, fun hx => ?_⟩
      · simp only [Bool.and_eq_true, decide_eq_true_eq] at hx
        exact (key hx.1).trans (if_pos (decide_eq_true hx.2))
      · by_cases e : t.2.1 = c
        · have hx2 : decide (dpF s t.1 < (cntF t.2.2 L : Int)) = false := by simpa [e] using hx
          exact ⟨_, (key e).trans (by rw [hx2]; rfl), _, _, rfl⟩
        · exact ⟨_, key2 e, _, _, rfl⟩) (fun e h => by cases h) (fun e h => by cases h) (fun e h => by cases h)
  have e0 : (tgName 3 ∘ eK) = fun t : Tk => tgName 3 (eK t) := rfl
  rw [e0]
  rw [← ha] at z
  cases a with
  | true =>
    rw [if_pos rfl] at z
    rw [z]
    simp
  | false =>
    rw [if_neg Bool.false_ne_true] at z
    obtain ⟨e, h1, c3, c5, rfl⟩ := z
    rw [h1]
    simp
    have z := loop_find (body := B2)
      (env0 := [.sh (eS s), .sh d, .sh (.str c), c3, .un, c5, .un]) s.ti (fun p => tgName 4 (eP p)) (fun p => decide (p.1 = c) && decide (p.2 ∈ L)) (.rt (.bl false))
      (fun env => ∃ c4, env = [.sh (eS s), .sh d, .sh (.str c), c3, c4, c5, .un]) ⟨_, rfl⟩ (by
        rintro p env hp ⟨c4, rfl⟩
        obtain ⟨g1, g2, g3⟩ := hs.ig p hp
        refine ⟨_, rfl, fun hx => ?_, fun hx => ⟨[.sh (eS s), .sh d, .sh (.str c), c3, .sh (eP p), c5, .un], ?_, _, rfl⟩⟩
        · simp only [Bool.and_eq_true, decide_eq_true_eq] at hx
          subst hB2
          simp [ix_P0, ix_P1, eq_ss (hs.nm _ g1) (hs.nm c hc), eq_ss (hs.nm c hc) (hs.nm c hc), hx.1, in_lot hd, hx.2]
        · subst hB2
          by_cases q : p.1 = c
          · have hx2 : p.2 ∉ L := by simpa [q] using hx
            simp [ix_P0, ix_P1, eq_ss (hs.nm _ g1) (hs.nm c hc), eq_ss (hs.nm c hc) (hs.nm c hc), q, in_lot hd, hx2]
          · simp [ix_P0, ix_P1, eq_ss (hs.nm _ g1) (hs.nm c hc), eq_ss (hs.nm c hc) (hs.nm c hc), q, in_lot hd]) (fun e h => by cases h) (fun e h => by cases h) (fun e h => by cases h)
    have e1 : (tgName 4 ∘ eP) = fun p : Str × Str => tgName 4 (eP p) := rfl
    rw [e1]
    rw [← hb] at z
    cases b with
    | true =>
      rw [if_pos rfl] at z
      rw [z]
      simp
    | false =>
      rw [if_neg Bool.false_ne_true] at z
      obtain ⟨e, h1, c4, rfl⟩ := z
      rw [h1]
      simp
/-! ### stuck -/
theorem any_snoc {α : Type} (f : α → Bool) (xs : List α) (k : Nat) (h : k < xs.length) : (xs.take (k + 1)).any f = ((xs.take k).any f || f xs[k]) := by
  rw [List.take_succ_eq_append_getElem h, List.any_append]; simp
theorem lawstuck_ok {s : Se} (hs : s.Ok) {L : List Str} (hg : ∀ x ∈ L, x ∈ s.g) : M_law_stuck [eS s, .tup (dS L)] = .ok (.bl (stuckF s L)) := by
  obtain ⟨a, ha⟩ : ∃ a, a = L.any fun c => !heldF s L c := ⟨_, rfl⟩
  have hsf : stuckF s L = (decide (0 < L.length) && !a) := by
    unfold stuckF
    rw [ha]
    congr 1
    rw [List.not_any_eq_all_not]
    congr 1; funext x; simp
  rw [hsf]
  simp [M_law_stuck, m_law_stuck]
  generalize hB : (mSeq _ _ : En → SR) = B
  have z := loop_find (body := B)
    (env0 := [.sh (eS s), .sh (.tup (dS L)), .un, .un, .un, .un, .un, .un]) L (fun c => tgName 2 (.str c)) (fun c => !heldF s L c) (.rt (.bl false))
    (fun env => ∃ c2 c3 c4 c5 c6, env = [.sh (eS s), .sh (.tup (dS L)), c2, c3, c4, c5, c6, .un]) ⟨_, _, _, _, _, rfl⟩ (by
      rintro c env hc ⟨c2, c3, c4, c5, c6, rfl⟩
      have hcg := hg c hc
      have key : ∃ c4' c5' c6', B [.sh (eS s), .sh (.tup (dS L)), .sh (.str c), c3, c4, c5, c6, .un] = if heldF s L c then .nx [.sh (eS s), .sh (.tup (dS L)), .sh (.str c), .sh (.bl true), c4', c5', c6', .un] else .rt (.bl false) := by
        subst hB
        simp
        generalize hr : loopM _ _ _ = r
        obtain ⟨e, rfl, b, c4', c6', hb, rfl⟩ := loop_for hr s.tk eK 4 (by rfl) (fun k env => ∃ (b : Bool) (c4' c6' : Cl), b = ((s.tk.take k).any fun t => decide (t.2.1 = c) && decide (dpF s t.1 < (cntF t.2.2 L : Int))) ∧ env = [.sh (eS s), .sh (.tup (dS L)), .sh (.str c), .sh (.bl b), c4', c5, c6', .un]) ⟨false, _, _, rfl, rfl⟩ (by
          rintro k env hk ⟨b, c4', c6', hb, rfl⟩
          have ht := List.getElem_mem hk
          obtain ⟨o1, o2, o3⟩ := hs.kOk ht
          have hl := (hs.hs ht).2.2
          have h1 := (hs.tg _ ht).1
          by_cases e : s.tk[k].2.1 = c
          · refine ⟨[.sh (eS s), .sh (.tup (dS L)), .sh (.str c), .sh (.bl (b || decide (dpF s s.tk[k].1 < (cntF s.tk[k].2.2 L : Int)))), .sh (eK s.tk[k]), c5, .sh (.int (cntF s.tk[k].2.2 L : Nat)), .un], ?_, _, _, _, ?_, rfl⟩
            · simp [eq_ss o2 (hs.nm c hcg), eq_ss (hs.nm c hcg) (hs.nm c hcg), e]
              rw [e_szB _ (by omega)]
              simp
              generalize hq : compL _ _ _ _ = r
              have z := comp_map hq s.tk[k].2.2 (fun x => tgName 7 (.str x)) (fun x => decide (x ∈ L)) .str (by simp [Function.comp_def]) (fun y hy => ⟨_, rfl, by simp, fun _ => by simp⟩)
              subst z
              simp [idxS hs.nm h1, dpD_at hs h1]
              unfold cntF
              rw [orV_ok]
              simp
            · rw [any_snoc _ _ _ hk, hb]; simp [e]
          · refine ⟨[.sh (eS s), .sh (.tup (dS L)), .sh (.str c), .sh (.bl b), .sh (eK s.tk[k]), c5, c6', .un], ?_, _, _, _, ?_, rfl⟩
            · simp [eq_ss o2 (hs.nm c hcg), eq_ss (hs.nm c hcg) (hs.nm c hcg), e]
            · rw [any_snoc _ _ _ hk, hb]; simp [e])
        rw [List.take_length] at hb
        simp
        generalize hr : loopM _ _ _ = r
        obtain ⟨e, rfl, b', c5', hb', rfl⟩ := loop_for hr s.ti eP 5 (by rfl) (fun k env => ∃ (b' : Bool) (c5' : Cl), b' = (b || (s.ti.take k).any fun p => decide (p.1 = c) && decide (p.2 ∈ L)) ∧ env = [.sh (eS s), .sh (.tup (dS L)), .sh (.str c), .sh (.bl b'), c4', c5', c6', .un]) ⟨b, _, by simp, rfl⟩ (by
          rintro k env hk ⟨b', c5', hb', rfl⟩
          have hp := List.getElem_mem hk
          obtain ⟨g1, g2, g3⟩ := hs.ig _ hp
          refine ⟨[.sh (eS s), .sh (.tup (dS L)), .sh (.str c), .sh (.bl (b' || (decide (s.ti[k].1 = c) && decide (s.ti[k].2 ∈ L)))), c4', .sh (eP s.ti[k]), c6', .un], ?_, _, _, ?_, rfl⟩
          · by_cases q : s.ti[k].1 = c
            · by_cases q2 : s.ti[k].2 ∈ L
              · simp [ix_P0, ix_P1, eq_ss (hs.nm _ g1) (hs.nm c hcg), eq_ss (hs.nm c hcg) (hs.nm c hcg), q, q2]
              · simp [ix_P0, ix_P1, eq_ss (hs.nm _ g1) (hs.nm c hcg), eq_ss (hs.nm c hcg) (hs.nm c hcg), q, q2]
            · simp [ix_P0, ix_P1, eq_ss (hs.nm _ g1) (hs.nm c hcg), eq_ss (hs.nm c hcg) (hs.nm c hcg), q]
          · rw [any_snoc _ _ _ hk, hb', Bool.or_assoc])
        rw [List.take_length] at hb'
        have hh : heldF s L c = b' := by unfold heldF; rw [hb', hb]
        refine ⟨c4', c5', c6', ?_⟩
        rw [hh]
        cases b' <;> simp
      obtain ⟨c4', c5', c6', key⟩ := key
      refine ⟨_, rfl, fun hx => ?_, fun hx => ⟨[.sh (eS s), .sh (.tup (dS L)), .sh (.str c), .sh (.bl true), c4', c5', c6', .un], ?_, _, _, _, _, _, rfl⟩⟩
      · have hx' : heldF s L c = false := by simpa using hx
        exact key.trans (by rw [hx']; rfl)
      · have hx' : heldF s L c = true := by simpa using hx
        exact key.trans (by rw [hx']; rfl)) (fun e h => by cases h) (fun e h => by cases h) (fun e h => by cases h)
  have e0 : (tgName 2 ∘ D.str) = fun x : Str => tgName 2 (.str x) := rfl
  rw [e0]
  rw [← ha] at z
  cases a with
  | true =>
    rw [if_pos rfl] at z
    rw [z]
    simp
  | false =>
    rw [if_neg Bool.false_ne_true] at z
    obtain ⟨e, h1, c2, c3, c4, c5, c6, rfl⟩ := z
    rw [h1]
    simp
end Pl

set_option autoImplicit true
set_option Elab.async false
set_option linter.all false
set_option maxRecDepth 100000
set_option maxHeartbeats 4000000
namespace Pl
open PySem Sm K49 L2
/-! ### orders that fit -/
theorem explains_ok {s : Se} (hs : s.Ok) {o : List Str} (ho : ∀ x ∈ o, sOk x) {t : Tk} (ht : t ∈ s.tk) (hb : t.2.1 ∈ o) {d : D} (hd : d = .lst (dS o) ∨ d = .tup (dS o)) : M_law_explains [d, eK t, .int (dpF s t.1)] = .ok (.bl (fitT s o t)) := by
  have hl : listL d = .ok (dS o) := by rcases hd with rfl | rfl <;> rfl
  have h12 := (hs.hs ht).2.2
  simp [M_law_explains, m_law_explains, hl, idxS ho hb, sl_takeL]
  rw [e_szB _ (by omega)]
  simp
  generalize hq : compL _ _ _ _ = r
  have z := comp_map hq t.2.2 (fun x => tgName 5 (.str x)) (fun x => decide (x ∈ o.take (ix t.2.1 o))) .str (by simp [Function.comp_def]) (fun y hy => ⟨_, rfl, by
    have hin : inY (.str y) (.lst (List.take (ix t.2.1 o) (List.map D.str o))) = some (.bl (decide (y ∈ o.take (ix t.2.1 o)))) := by rw [dS_take]; exact in_strL ..
    simp [hin], fun _ => by simp⟩)
  subst z
  unfold fitT cntF
  simp
theorem lawfits_ok {s : Se} (hs : s.Ok) {o : List Str} (ho : ∀ x ∈ o, sOk x) (hm : ∀ x ∈ s.g, x ∈ o) {d : D} (hd : d = .lst (dS o) ∨ d = .tup (dS o)) : M_law_fits [eS s, d] = .ok (.bl (fitsF s o)) := by
  have hl : listL d = .ok (dS o) := by rcases hd with rfl | rfl <;> rfl
  obtain ⟨a, ha⟩ : ∃ a, a = s.tk.any fun t => !fitT s o t := ⟨_, rfl⟩
  obtain ⟨b, hb⟩ : ∃ b, b = s.ti.any fun p => !decide (ix p.1 o ≤ ix p.2 o) := ⟨_, rfl⟩
  have hf : fitsF s o = (!a && !b) := by
    unfold fitsF
    rw [ha, hb, List.not_any_eq_all_not, List.not_any_eq_all_not]
    simp
  rw [hf]
  simp [M_law_fits, m_law_fits, hl]
  generalize hB1 : (mIfS _ _ _ : En → SR) = B1
  generalize hB2 : (mIfS _ _ _ : En → SR) = B2
  have z := loop_find (body := B1)
    (env0 := [.sh (eS s), .sh d, .sh (.lst (dS o)), .un, .un]) s.tk (fun t => tgName 3 (eK t)) (fun t => !fitT s o t) (.rt (.bl false))
    (fun env => ∃ c3, env = [.sh (eS s), .sh d, .sh (.lst (dS o)), c3, .un]) ⟨_, rfl⟩ (by
      rintro t env ht ⟨c3, rfl⟩
      have h1 := (hs.tg t ht).1
      have hb : t.2.1 ∈ o := hm _ ((hs.hs ht).1 _ (hs.tg t ht).2.1)
      refine ⟨_, rfl, fun hx => ?_, fun hx => ⟨[.sh (eS s), .sh d, .sh (.lst (dS o)), .sh (eK t), .un], ?_, _, rfl⟩⟩
      · have hx' : fitT s o t = false := by simpa using hx
        subst hB1
        simp [idxS hs.nm h1, dpD_at hs h1, explains_ok hs ho ht hb (.inl rfl), hx']
      · have hx' : fitT s o t = true := by simpa using hx
        subst hB1
        simp [idxS hs.nm h1, dpD_at hs h1, explains_ok hs ho ht hb (.inl rfl), hx']) (fun e h => by cases h) (fun e h => by cases h) (fun e h => by cases h)
  have e0 : (tgName 3 ∘ eK) = fun t : Tk => tgName 3 (eK t) := rfl
  rw [e0]
  rw [← ha] at z
  cases a with
  | true =>
    rw [if_pos rfl] at z
    rw [z]
    simp
  | false =>
    rw [if_neg Bool.false_ne_true] at z
    obtain ⟨e, h1, c3, rfl⟩ := z
    rw [h1]
    simp
    have z := loop_find (body := B2)
      (env0 := [.sh (eS s), .sh d, .sh (.lst (dS o)), c3, .un]) s.ti (fun p => tgName 4 (eP p)) (fun p => !decide (ix p.1 o ≤ ix p.2 o)) (.rt (.bl false))
      (fun env => ∃ c4, env = [.sh (eS s), .sh d, .sh (.lst (dS o)), c3, c4]) ⟨_, rfl⟩ (by
        rintro p env hp ⟨c4, rfl⟩
        obtain ⟨g1, g2, g3⟩ := hs.ig p hp
        refine ⟨_, rfl, fun hx => ?_, fun hx => ⟨[.sh (eS s), .sh d, .sh (.lst (dS o)), c3, .sh (eP p)], ?_, _, rfl⟩⟩
        · have hx' : ix p.2 o < ix p.1 o := by simpa using hx
          subst hB2
          simp [ix_P0, ix_P1, idxS ho (hm _ g1), idxS ho (hm _ g2), hx']
        · have hx' : ¬ ix p.2 o < ix p.1 o := by simpa using hx
          subst hB2
          simp [ix_P0, ix_P1, idxS ho (hm _ g1), idxS ho (hm _ g2), hx']) (fun e h => by cases h) (fun e h => by cases h) (fun e h => by cases h)
    have e1 : (tgName 4 ∘ eP) = fun p : Str × Str => tgName 4 (eP p) := rfl
    rw [e1]
    rw [← hb] at z
    cases b with
    | true =>
      rw [if_pos rfl] at z
      rw [z]
      simp
    | false =>
      rw [if_neg Bool.false_ne_true] at z
      obtain ⟨e, h1, c4, rfl⟩ := z
      rw [h1]
      simp
/-! ### peeled, by the law -/
theorem last_map {α : Type} (f : α → D) (xs : List α) : (xs.map f).getLast? = xs.getLast?.map f := by
  simp
theorem ins0 (xs : List D) (d : D) (h : xs.length ≤ 10000) : insG xs [.int 0, d] = some (d :: xs) := by
  show (if szB (xs.length + 1) && decide ((0 : Int) ≤ 0 ∧ (0 : Int) < 2 ^ 63) then some (xs.take (0 : Int).toNat ++ [d] ++ xs.drop (0 : Int).toNat) else none) = _
  rw [e_szB _ (by omega)]
  simp
theorem erase_off {L : List Str} {c : Str} (hn : L.Nodup) (hc : c ∈ L) : L.eraseIdx (ix c L) = off c L := by
  induction L with
  | nil => cases hc
  | cons a L ih =>
    rw [List.nodup_cons] at hn
    by_cases e : a = c
    · subst e
      have : off a (a :: L) = L := by
        unfold off
        rw [List.filter_cons]
        simp
        intro x hx q
        exact hn.1 (q ▸ hx)
      rw [this]
      simp [ix]
    · have hc' : c ∈ L := (List.mem_cons.mp hc).resolve_left fun z => e z.symm
      have : off c (a :: L) = a :: off c L := by
        unfold off
        rw [List.filter_cons]
        simp [e]
      rw [this, ← ih hn.2 hc']
      simp [ix, e]
theorem rem_off {L : List Str} (h : ∀ x ∈ L, sOk x) (hn : L.Nodup) {c : Str} (hc : c ∈ L) : remG (dS L) [.str c] = some (dS (off c L)) := by
  have := gS.remove (h c hc) h hc
  rw [erase_off hn hc] at this
  exact this
def peD (L o : List Str) : D := .lst (if L = [] then [.tup (dS o), .tup []] else [.non, .tup (dS L)])
theorem peelF_nil (held : List Str → Str → Bool) (n : Nat) (o : List Str) : peelF held n [] o = ([], o) := by
  cases n with
  | zero => rfl
  | succ n => unfold peelF; rfl
theorem lawpeeled_ok {s : Se} (hs : s.Ok) : M_law_peeled [eS s] = .ok (.lst (if leftF s = [] then [.tup (dS (ordF s)), .tup []] else [.non, .tup (dS (leftF s))])) := by
  have hgl := hs.gl
  simp [M_law_peeled, m_law_peeled]
  rw [e_rng _ (by omega)]
  simp
  generalize hB : (mSeq _ _ : En → SR) = B
  have turn : ∀ (k : Nat) (L o : List Str) (c3 c4 : Cl), L.Nodup → (∀ x ∈ L, x ∈ s.g) → o.length ≤ 1000 →
      match lastFree (heldF s) L with
      | none => B [.sh (eS s), .ow (.lst (dS L)), .ow (.lst (dS o)), .sh (.int (k : Int)), c4, .un] = .rf (.lst [.non, .tup (dS L)])
      | some c => ∃ c4', B [.sh (eS s), .ow (.lst (dS L)), .ow (.lst (dS o)), .sh (.int (k : Int)), c4, .un] = .nx [.sh (eS s), .ow (.lst (dS (off c L))), .ow (.lst (dS (c :: o))), .sh (.int (k : Int)), c4', .un] := by
    intro k L o c3 c4 nd hg ho
    have hLl : L.length ≤ 12 := by
      have := List.Nodup.length_le_of_subset nd hg
      omega
    subst hB
    have main : ∀ r, (mFz (mComp (mSeqT (mVarT 1) (tgName 5)) [5] (mTest (mCallT M_law_free [] (mCons (mVar 0) (mCons (mVarT 1) (mCons (mVar 5) mNil))))) (mVar 5))) [.sh (eS s), .ow (.lst (dS L)), .ow (.lst (dS o)), .sh (.int (k : Int)), c4, .un] = r → r = .ok (.lst (dS (L.filter fun c => !heldF s L c))) := by
      intro r hr
      simp at hr
      rw [e_szB _ (by omega)] at hr
      simp at hr
      generalize hq : compL _ _ _ _ = r' at hr
      have z := comp_map hq L (fun x => tgName 5 (.str x)) (fun c => !heldF s L c) .str (by simp [Function.comp_def]) (fun y hy => ⟨_, rfl, by simp [lawfree_ok hs (hg y hy) (.inl rfl)], fun _ => by simp⟩)
      subst z
      exact hr.symm
    have m := main _ rfl
    cases q : lastFree (heldF s) L with
    | none =>
      have hh := lastFree_none.mp q
      have hf : (L.filter fun c => !heldF s L c) = [] := List.filter_eq_nil_iff.mpr fun x hx => by simp [hh x hx]
      rw [hf] at m
      simp only [e_mSeq, e_mSet, e_mS, m]
      simp
    | some c =>
      have hc := lastFree_some q
      have hq : (L.filter fun c => !heldF s L c).getLast? = some c := q
      have hne : (L.filter fun c => !heldF s L c) ≠ [] := fun z => by rw [z] at hq; cases hq
      have hlast : ixD (.lst (dS (L.filter fun c => !heldF s L c))) (.int (-1)) = some (.str c) := by
        rw [at_last, last_map, hq]; rfl
      generalize (L.filter fun c => !heldF s L c) = F at m hne hlast
      have hFl : ¬ ((F.length : Int) = 0) := by
        have := List.length_pos_iff.mpr hne
        omega
      refine ⟨.sh (.lst (dS F)), ?_⟩
      simp only [e_mSeq, e_mSet, e_mS, m]
      simp [hne, hlast, rem_off (fun x hx => hs.nm x (hg x hx)) nd hc.1]
      rw [ins0 _ _ (by simp; omega)]
      simp
  have run : ∀ (n k0 : Nat) (L o : List Str) (c3 c4 : Cl), L.Nodup → (∀ x ∈ L, x ∈ s.g) → L.length ≤ n → o.length + n ≤ 100 →
      (if (peelF (heldF s) n L o).1 = [] then ∃ c3' c4', n = L.length → loopM B ((List.range' k0 n).map fun k : Nat => tgName 3 (.int (k : Int))) [.sh (eS s), .ow (.lst (dS L)), .ow (.lst (dS o)), c3, c4, .un] = .nx [.sh (eS s), .ow (.lst []), .ow (.lst (dS (peelF (heldF s) n L o).2)), c3', c4', .un]
      else loopM B ((List.range' k0 n).map fun k : Nat => tgName 3 (.int (k : Int))) [.sh (eS s), .ow (.lst (dS L)), .ow (.lst (dS o)), c3, c4, .un] = .rf (.lst [.non, .tup (dS (peelF (heldF s) n L o).1)])) := by
    intro n
    induction n with
    | zero =>
      intro k0 L o c3 c4 nd hg hl ho
      have : L = [] := List.eq_nil_of_length_eq_zero (by omega)
      subst this
      have hz : (peelF (heldF s) 0 ([] : List Str) o).1 = [] := rfl
      rw [if_pos hz]
      exact ⟨c3, c4, fun _ => rfl⟩
    | succ n ih =>
      intro k0 L o c3 c4 nd hg hl ho
      have t := turn k0 L o c3 c4 nd hg (by omega)
      rw [List.range'_succ]
      simp only [List.map_cons]
      unfold peelF
      cases q : lastFree (heldF s) L with
      | none =>
        rw [q] at t
        simp only at t ⊢
        by_cases hL : L = []
        · rw [if_pos hL]
          exact ⟨c3, c4, fun e => by rw [hL] at e; cases e⟩
        · rw [if_neg hL]
          unfold loopM
          simp [t]
      | some c =>
        rw [q] at t
        obtain ⟨c4', t⟩ := t
        have hc := lastFree_some q
        have hlen := off_length nd hc.1
        have i := ih (k0 + 1) (off c L) (c :: o) (.sh (.int (k0 : Int))) c4' (nd.filter _) (fun x hx => hg x (mem_off.mp hx).1) (by omega) (by simp; omega)
        simp only
        have st : loopM B (tgName 3 (.int (k0 : Int)) :: (List.range' (k0 + 1) n).map fun k : Nat => tgName 3 (.int (k : Int))) [.sh (eS s), .ow (.lst (dS L)), .ow (.lst (dS o)), c3, c4, .un] = loopM B ((List.range' (k0 + 1) n).map fun k : Nat => tgName 3 (.int (k : Int))) [.sh (eS s), .ow (.lst (dS (off c L))), .ow (.lst (dS (c :: o))), .sh (.int (k0 : Int)), c4', .un] := by
          conv => lhs; unfold loopM
          simp [t]
        rw [st]
        split at i
        · rename_i h
          rw [if_pos h]
          obtain ⟨a, b, e⟩ := i
          exact ⟨a, b, fun z => e (by omega)⟩
        · rename_i h
          rw [if_neg h]
          exact i
  have z := run s.g.length 0 s.g [] .un .un hs.nd (fun x h => h) (Nat.le_refl _) (by simp; omega)
  have e0 : ((List.range s.g.length).map fun i : Nat => D.int (i : Int)).map (tgName 3) = (List.range' 0 s.g.length).map fun k : Nat => tgName 3 (.int (k : Int)) := by
    rw [List.map_map, List.range_eq_range']; rfl
  have e1 : (List.map (tgName 3 ∘ fun i : Nat => D.int (i : Int)) (List.range s.g.length)) = (List.range' 0 s.g.length).map fun k : Nat => tgName 3 (.int (k : Int)) := by
    rw [List.range_eq_range']; rfl
  rw [e1]
  change (if leftF s = [] then _ else _) at z
  by_cases h : leftF s = []
  · rw [if_pos h] at z ⊢
    obtain ⟨a, b, e⟩ := z
    rw [show (D.tup []) = .tup (dS []) from rfl]
    have e := e rfl
    simp only [List.map_nil] at e
    rw [e]
    simp
    rfl
  · rw [if_neg h] at z ⊢
    simp only [List.map_nil] at z
    rw [z]
    rfl
end Pl

set_option autoImplicit true
set_option Elab.async false
set_option linter.all false
set_option maxRecDepth 100000
set_option maxHeartbeats 4000000
namespace Pl
open PySem Sm K49 L2
/-! ### the same -/
def Sd : Nat → D → Prop
  | 0, _ => False
  | n + 1, .str x => sOk x
  | n + 1, .int _ => True
  | n + 1, .non => True
  | n + 1, .tup xs => xs.length ≤ 100000 ∧ ∀ x ∈ xs, Sd n x
  | _ + 1, _ => False
theorem whole_int (i : Int) : M_law_whole [.int i] = .ok (.bl true) := rfl
theorem same_ok : ∀ {n : Nat} {d : D}, Sd n d → M_law_same n [d, d] = .ok (.bl true)
  | 0, _, h => h.elim
  | n + 1, .str x, h => by
    have i1 : isiD ["tuple"] (.str x) = some (.bl false) := rfl
    have i2 : isiD ["str"] (.str x) = some (.bl true) := rfl
    simp [M_law_same, m_law_same, i1, i2, eq_ss h h]
  | n + 1, .int x, h => by
    have i1 : isiD ["tuple"] (.int x) = some (.bl false) := rfl
    have i2 : isiD ["str"] (.int x) = some (.bl false) := rfl
    have i3 : isN (.int x) .non = some (.bl false) := rfl
    simp [M_law_same, m_law_same, i1, i2, i3, whole_int]
  | n + 1, .non, h => by
    have i1 : isiD ["tuple"] .non = some (.bl false) := rfl
    simp [M_law_same, m_law_same, i1]
  | n + 1, .tup xs, h => by
    have i1 : isiD ["tuple"] (.tup xs) = some (.bl true) := rfl
    have hl := h.1
    simp [M_law_same, m_law_same, i1]
    rw [e_rng _ (by omega)]
    simp
    generalize hr : loopM _ _ _ = r
    obtain ⟨e, rfl, c, rfl⟩ := loop_for hr (List.range xs.length) (fun i : Nat => .int (i : Int)) 2 rfl (fun k env => ∃ c, env = [.sh (.tup xs), .sh (.tup xs), c]) ⟨_, rfl⟩ (by
      rintro k env hk ⟨c, rfl⟩
      simp at hk
      refine ⟨[.sh (.tup xs), .sh (.tup xs), .sh (.int (k : Int))], ?_, _, rfl⟩
      simp [hk, same_ok (h.2 _ (List.getElem_mem hk))])
    simp
theorem sd_names {n : Nat} {g : List Str} (h : ∀ x ∈ g, sOk x) (hl : g.length ≤ 1000) : Sd (n + 2) (.tup (dS g)) := ⟨by simp; omega, fun x hx => by
  obtain ⟨s, hs, rfl⟩ := List.mem_map.mp hx
  exact h s hs⟩
theorem sd_ints {n : Nat} {g : List Int} (hl : g.length ≤ 1000) : Sd (n + 2) (.tup (dI g)) := ⟨by simp; omega, fun x hx => by
  obtain ⟨s, hs, rfl⟩ := List.mem_map.mp hx
  trivial⟩
theorem sd_tk {s : Se} (hs : s.Ok) : Sd 5 (.tup (s.tk.map eK)) := by
  have := hs.tl
  refine ⟨by simp; omega, fun x hx => ?_⟩
  obtain ⟨t, ht, rfl⟩ := List.mem_map.mp hx
  obtain ⟨o1, o2, o3⟩ := hs.kOk ht
  have hl := (hs.hs ht).2.2
  refine ⟨by simp, fun y hy => ?_⟩
  simp only [List.mem_cons, List.not_mem_nil, or_false] at hy
  rcases hy with rfl | rfl | rfl
  · exact o1
  · exact o2
  · exact sd_names o3 (by omega)
theorem sd_ti {s : Se} (hs : s.Ok) : Sd 5 (.tup (s.ti.map eP)) := by
  have := hs.il
  refine ⟨by simp; omega, fun x hx => ?_⟩
  obtain ⟨p, hp, rfl⟩ := List.mem_map.mp hx
  obtain ⟨g1, g2, _⟩ := hs.ig p hp
  refine ⟨by simp, fun y hy => ?_⟩
  simp only [List.mem_cons, List.not_mem_nil, or_false] at hy
  rcases hy with rfl | rfl
  · exact hs.nm _ g1
  · exact hs.nm _ g2
/-! ### made -/
theorem td_names {n : Nat} {g : List Str} (h : ∀ x ∈ g, sOk x) (hl : g.length ≤ 1000) : Td (n + 2) (.tup (dS g)) := ⟨by simp; omega, fun x hx => by
  obtain ⟨s, hs, rfl⟩ := List.mem_map.mp hx
  exact h s hs⟩
theorem td_K {s : Se} (hs : s.Ok) {t : Tk} (ht : t ∈ s.tk) : Td 4 (eK t) := by
  obtain ⟨o1, o2, o3⟩ := hs.kOk ht
  have hl := (hs.hs ht).2.2
  refine ⟨by simp, fun y hy => ?_⟩
  simp only [List.mem_cons, List.not_mem_nil, or_false] at hy
  rcases hy with rfl | rfl | rfl
  · exact o1
  · exact o2
  · exact td_names o3 (by omega)
theorem td_P {s : Se} (hs : s.Ok) {p : Str × Str} (hp : p ∈ s.ti) : Td 4 (eP p) := by
  obtain ⟨g1, g2, _⟩ := hs.ig p hp
  refine ⟨by simp, fun y hy => ?_⟩
  simp only [List.mem_cons, List.not_mem_nil, or_false] at hy
  rcases hy with rfl | rfl
  · exact hs.nm _ g1
  · exact hs.nm _ g2
theorem frz_tk {s : Se} (hs : s.Ok) {d : D} (hd : d = .lst (s.tk.map eK) ∨ d = .tup (s.tk.map eK)) : M_frozen 5 [d] = .ok (.tup (s.tk.map eK)) := by
  have := hs.tl
  have z := frozen_seq (n := 4) hd (by simp; omega) id (fun x hx => by
    obtain ⟨t, ht, rfl⟩ := List.mem_map.mp hx
    exact frozen_td (td_K hs ht))
  simpa using z
theorem frz_ti {s : Se} (hs : s.Ok) {d : D} (hd : d = .lst (s.ti.map eP) ∨ d = .tup (s.ti.map eP)) : M_frozen 5 [d] = .ok (.tup (s.ti.map eP)) := by
  have := hs.il
  have z := frozen_seq (n := 4) hd (by simp; omega) id (fun x hx => by
    obtain ⟨t, ht, rfl⟩ := List.mem_map.mp hx
    exact frozen_td (td_P hs ht))
  simpa using z
def rowK (t : Tk) : D := .lst [.str t.1, .str t.2.1, .lst (dS t.2.2)]
def rowP (p : Str × Str) : D := .lst [.str p.1, .str p.2]
theorem frz_rowK {s : Se} (hs : s.Ok) {t : Tk} (ht : t ∈ s.tk) : M_frozen 4 [rowK t] = .ok (eK t) := by
  have hl := (hs.hs ht).2.2
  have z := frozen_seq (n := 3) (xs := [.str t.1, .str t.2.1, .lst (dS t.2.2)]) (.inl rfl) (by simp) (fun d => match d with | .lst xs => .tup xs | d => d) (fun x hx => by
    simp only [List.mem_cons, List.not_mem_nil, or_false] at hx
    rcases hx with rfl | rfl | rfl
    · exact frozen_leaf rfl
    · exact frozen_leaf rfl
    · exact frozen_names (n := 1) (by omega) (.inl rfl))
  exact z
theorem frz_rowP (p : Str × Str) : M_frozen 4 [rowP p] = .ok (eP p) := by
  have z := frozen_seq (n := 3) (xs := [.str p.1, .str p.2]) (.inl rfl) (by simp) id (fun x hx => by
    simp only [List.mem_cons, List.not_mem_nil, or_false] at hx
    rcases hx with rfl | rfl
    · exact frozen_leaf rfl
    · exact frozen_leaf rfl)
  rw [List.map_id] at z
  exact z
theorem frz_rows {s : Se} (hs : s.Ok) : M_frozen 5 [.lst (s.tk.map rowK)] = .ok (.tup (s.tk.map eK)) := by
  have := hs.tl
  have h : ∀ x ∈ s.tk.map rowK, M_frozen 4 [x] = .ok (match x with | .lst [.str a, .str b, .lst hs] => .tup [.str a, .str b, .tup hs] | d => d) := fun x hx => by
    obtain ⟨t, ht, rfl⟩ := List.mem_map.mp hx
    exact frz_rowK hs ht
  have z := frozen_seq (n := 4) (d := .lst (s.tk.map rowK)) (.inl rfl) (by simp; omega) _ h
  rw [z, List.map_map]
  rfl
theorem frz_pairs {s : Se} (hs : s.Ok) : M_frozen 5 [.lst (s.ti.map rowP)] = .ok (.tup (s.ti.map eP)) := by
  have := hs.il
  have h : ∀ x ∈ s.ti.map rowP, M_frozen 4 [x] = .ok (match x with | .lst ys => .tup ys | d => d) := fun x hx => by
    obtain ⟨t, ht, rfl⟩ := List.mem_map.mp hx
    exact frz_rowP t
  have z := frozen_seq (n := 4) (d := .lst (s.ti.map rowP)) (.inl rfl) (by simp; omega) _ h
  rw [z, List.map_map]
  rfl
theorem arr4 (a b c d e : D) : arr [.p 0, .p 1, .p 2, .p 3] [a, b, c, d] [e] [] [] = [a, b, c, d] := by rfl
@[simp] theorem list_eK (t : Tk) : listL (eP p) = .ok [.str p.1, .str p.2] := rfl
theorem made_ok {s : Se} (hs : s.Nm) (k : Int) : M_law_made [eS s, .int k] = .ok (OSb s) := by
  have htl := hs.tl
  have hil := hs.il
  have h0 := seen_init hs (dg := .tup (dS s.g)) (dt := .tup (s.tk.map eK)) (dd := .tup (dI s.dp)) (di := .tup (s.ti.map eP)) ⟨.inr rfl, .inr rfl, frz_tk hs.toOk (.inr rfl), frz_ti hs.toOk (.inr rfl)⟩
  have h1 := seen_init hs (dg := .lst (dS s.g)) (dt := .lst (s.tk.map rowK)) (dd := .lst (dI s.dp)) (di := .lst (s.ti.map rowP)) ⟨.inl rfl, .inl rfl, frz_rows hs.toOk, frz_pairs hs.toOk⟩
  have h2 := seen_init hs (dg := .lst (dS s.g)) (dt := .lst (s.tk.map eK)) (dd := .lst (dI s.dp)) (di := .lst (s.ti.map eP)) ⟨.inl rfl, .inl rfl, frz_tk hs.toOk (.inl rfl), frz_ti hs.toOk (.inl rfl)⟩
  by_cases e0 : k = 0
  · subst e0
    simp [M_law_made, m_law_made, arr4, h0]
  · by_cases e1 : k = 1
    · subst e1
      simp [M_law_made, m_law_made]
      rw [e_szB _ (by omega)]
      simp
      generalize hq : compL _ _ _ _ = r
      have z := comp_all hq s.tk (fun x => tgName 3 (eK x)) rowK (by rfl) (fun y hy => ⟨_, rfl, rfl, by simp [rowK]⟩)
      subst z
      simp
      rw [e_szB _ (by omega)]
      simp
      generalize hq : compL _ _ _ _ = r
      have z := comp_all hq s.ti (fun x => tgName 4 (eP x)) rowP (by rfl) (fun y hy => ⟨_, rfl, rfl, by simp [rowP]⟩)
      subst z
      simp [arr4, h1]
    · simp [M_law_made, m_law_made, e0, e1, arr4, h2]
/-! ### left, whatever is taken off -/
theorem left_ok {s : Se} (hs : s.Ok) {row : List Int} (hrow : 12 ≤ row.length) : M_law_left [eS s, .lst (dI row)] = .ok (.tup (dS (leftF s))) := by
  have hgl := hs.gl
  simp [M_law_left, m_law_left]
  rw [cut_take]
  generalize hr : loopM _ _ _ = r
  obtain ⟨e, rfl, L, c3, c4, lf, hf, rfl⟩ := loop_for hr (row.take s.g.length) .int 3 (by rw [← List.map_take]; simp [Function.comp_def]) (fun k env => ∃ (L : List Str) (c3 c4 : Cl), Lf (heldF s) s.g L ∧ (HeldIn (heldF s) L ∨ L.length + k ≤ s.g.length) ∧ env = [.sh (eS s), .sh (.lst (dI row)), .ow (.lst (dS L)), c3, c4, .un]) ⟨s.g, _, _, Lf.start _, .inr (by omega), rfl⟩ (by
    rintro k env hk ⟨L, c3, c4, lf, hf, rfl⟩
    have hsub := lf.sub
    have hnd : L.Nodup := by obtain ⟨p, rfl⟩ := lf.part; exact hs.nd.filter _
    have hLl : L.length ≤ 12 := by
      have := List.Nodup.length_le_of_subset hnd hsub
      omega
    by_cases hF : (L.filter fun c => !heldF s L c) = []
    · refine ⟨[.sh (eS s), .sh (.lst (dI row)), .ow (.lst (dS L)), .sh (.int (row.take s.g.length)[k]), .sh (.lst []), .un], ?_, L, _, _, lf, .inl ?_, rfl⟩
      · simp
        rw [e_szB _ (by omega)]
        simp
        generalize hq : compL _ _ _ _ = r'
        have z := comp_map hq L (fun x => tgName 5 (.str x)) (fun c => !heldF s L c) .str (by simp [Function.comp_def]) (fun y hy => ⟨_, rfl, by simp [lawfree_ok hs (hsub y hy) (.inl rfl)], fun _ => by simp⟩)
        subst z
        rw [hF]
        simp
      · intro c hc
        have := List.filter_eq_nil_iff.mp hF c hc
        simpa using this
    · obtain ⟨F, hFe⟩ : ∃ F, F = L.filter fun c => !heldF s L c := ⟨_, rfl⟩
      rw [← hFe] at hF
      have hFl := List.length_pos_iff.mpr hF
      have hp : (0 : Int) < (F.length : Int) := by omega
      obtain ⟨q, hq⟩ : ∃ q : Nat, (row.take s.g.length)[k] % (F.length : Int) = (q : Int) := ⟨((row.take s.g.length)[k] % (F.length : Int)).toNat, (Int.toNat_of_nonneg (Int.emod_nonneg _ (by omega))).symm⟩
      have hql : q < F.length := by
        have := Int.emod_lt_of_pos (row.take s.g.length)[k] hp
        omega
      have hmem : F[q] ∈ L ∧ heldF s L F[q] = false := by
        have : F[q] ∈ L.filter fun c => !heldF s L c := hFe ▸ List.getElem_mem hql
        rw [List.mem_filter] at this
        simpa using this
      refine ⟨[.sh (eS s), .sh (.lst (dI row)), .ow (.lst (dS (off F[q] L))), .sh (.int (row.take s.g.length)[k]), .sh (.lst (dS F)), .un], ?_, off F[q] L, _, _, lf.off (held_mono s) hmem.2, .inr ?_, rfl⟩
      · simp only [e_mSeq, e_mSet, e_mS, e_mFz, e_mComp, e_mSeqT, e_mVarT, List.set_cons_succ, List.set_cons_zero, List.getElem?_cons_succ, List.getElem?_cons_zero, clT_ow, rb_ok, e_itemsT, e_wipe1, e_wipe0]
        rw [e_szB _ (by simp; omega)]
        simp only [if_true]
        generalize hq' : compL _ _ _ _ = r'
        have z := comp_map hq' L (fun x => tgName 5 (.str x)) (fun c => !heldF s L c) .str (by simp [Function.comp_def]) (fun y hy => ⟨_, rfl, by simp [lawfree_ok hs (hsub y hy) (.inl rfl)], fun _ => by simp⟩)
        subst z
        rw [← hFe]
        simp [hF]
        have hq2 : (row[k]'(by simp at hk; omega)) % (F.length : Int) = (q : Int) := by
          rw [← hq]; congr 1; rw [List.getElem_take]
        rw [e_mod _ _ hp, hq2]
        simp [hql, rem_off (fun x hx => hs.nm x (hsub x hx)) hnd hmem.1]
        exact fun h => absurd h hF
      · have := off_length hnd hmem.1
        rcases hf with h | h
        · rw [h _ hmem.1] at hmem
          cases hmem.2
        · omega)
  have hh : HeldIn (heldF s) L := by
    rcases hf with h | h
    · exact h
    · have : L = [] := List.eq_nil_of_length_eq_zero (by
        rw [List.length_take] at h
        omega)
      subst this
      intro c hc
      cases hc
  have := Lf.uniq lf (res_ok hs).1.lf hh (res_ok hs).2
  subst this
  simp
end Pl

set_option autoImplicit true
set_option Elab.async false
set_option linter.all false
set_option maxRecDepth 100000
set_option maxHeartbeats 4000000
namespace Pl
open PySem Sm K49 L2
theorem pigLen {α : Type} [DecidableEq α] {l1 l2 : List α} (hn : l1.Nodup) (hs : ∀ x ∈ l1, x ∈ l2) : l1.length ≤ l2.length := List.Nodup.length_le_of_subset hn hs
theorem pigAll {α : Type} [DecidableEq α] {l1 l2 : List α} (hn : l1.Nodup) (hs : ∀ x ∈ l1, x ∈ l2) (hl : l2.length ≤ l1.length) : ∀ x ∈ l2, x ∈ l1 := fun x hx => by
  by_cases h : x ∈ l1
  · exact h
  · have := pigLen (l1 := x :: l1) (l2 := l2) (List.nodup_cons.mpr ⟨h, hn⟩) (fun y hy => by
      rcases List.mem_cons.mp hy with rfl | q
      · exact hx
      · exact hs y q)
    simp only [List.length_cons] at this
    omega
/-! ### all orders -/
abbrev dT (R : List (List Str)) : List D := R.map fun r => .tup (dS r)
theorem pow6 {k : Nat} (h : k ≤ 6) : 6 ^ k ≤ 46656 := by
  have : ∀ j : Fin 7, 6 ^ j.val ≤ 46656 := by decide
  exact this ⟨k, by omega⟩
theorem laworders_ok {g : List Str} (hn : g.Nodup) (hl : g.length ≤ 6) : ∃ R : List (List Str), M_law_orders [.lst (dS g)] = .ok (.lst (dT R)) ∧ R.length ≤ 46656 ∧ ∀ r ∈ R, (∀ x ∈ r, x ∈ g) ∧ ∀ x ∈ g, x ∈ r := by
  simp [M_law_orders, m_law_orders]
  rw [e_rng _ (by omega)]
  simp
  generalize hr : loopM _ _ _ = r
  obtain ⟨e, rfl, R, c2, c3, c4, c5, hR, hlen, rfl⟩ := loop_for hr (List.range g.length) (fun i : Nat => .int (i : Int)) 2 rfl (fun k env => ∃ (R : List (List Str)) (c2 c3 c4 c5 : Cl), (∀ r ∈ R, r.Nodup ∧ (∀ x ∈ r, x ∈ g) ∧ r.length = k) ∧ R.length ≤ 6 ^ k ∧ env = [.sh (.lst (dS g)), .sh (.lst (dT R)), c2, c3, c4, c5]) ⟨[[]], _, _, _, _, (by intro r hr; simp at hr; subst hr; simp), by simp, rfl⟩ (by
    rintro k env hk ⟨R, c2, c3, c4, c5, hR, hlen, rfl⟩
    simp at hk
    have hp := pow6 (k := k) (by omega)
    have body : ∀ r, (mFor (mSeqI (mVar 1) (tgName 4)) (mFor (mSeqI (mVar 0) (tgName 5)) (mIfS (mTest (mOp niY (mVar 5) (mVar 4))) (mMut 3 (mCons (mOp addD (mVar 4) (mTupL (mCons (mVar 5) mNil))) mNil) appG) mNx))) [.sh (.lst (dS g)), .sh (.lst (dT R)), .sh (.int (k : Int)), .ow (.lst []), c4, c5] = r →
        ∃ (N : List (List Str)) (c4' c5' : Cl), (∀ r ∈ N, r.Nodup ∧ (∀ x ∈ r, x ∈ g) ∧ r.length = k + 1) ∧ N.length ≤ R.length * 6 ∧ r = .nx [.sh (.lst (dS g)), .sh (.lst (dT R)), .sh (.int (k : Int)), .ow (.lst (dT N)), c4', c5'] := by
      intro r hr
      simp only [e_mFor, e_mS, e_mSeqI, e_mVar, List.getElem?_cons_succ, List.getElem?_cons_zero, clD_sh, rb_ok, e_itL, resS_ok] at hr
      obtain ⟨e, rfl, N, c4', c5', hN, hNl, rfl⟩ := loop_for hr R (fun r => .tup (dS r)) 4 (by rw [List.map_map]; rfl) (fun j env => ∃ (N : List (List Str)) (c4' c5' : Cl), (∀ r ∈ N, r.Nodup ∧ (∀ x ∈ r, x ∈ g) ∧ r.length = k + 1) ∧ N.length ≤ j * 6 ∧ env = [.sh (.lst (dS g)), .sh (.lst (dT R)), .sh (.int (k : Int)), .ow (.lst (dT N)), c4', c5']) ⟨[], _, _, by simp, by simp, rfl⟩ (by
        rintro j env hj ⟨N, c4', c5', hN, hNl, rfl⟩
        obtain ⟨r1, r2, r3⟩ := hR _ (List.getElem_mem hj)
        have inner : ∀ r, (mFor (mSeqI (mVar 0) (tgName 5)) (mIfS (mTest (mOp niY (mVar 5) (mVar 4))) (mMut 3 (mCons (mOp addD (mVar 4) (mTupL (mCons (mVar 5) mNil))) mNil) appG) mNx)) [.sh (.lst (dS g)), .sh (.lst (dT R)), .sh (.int (k : Int)), .ow (.lst (dT N)), .sh (.tup (dS R[j])), c5'] = r →
            ∃ (N' : List (List Str)) (c5'' : Cl), (∀ r ∈ N', r.Nodup ∧ (∀ x ∈ r, x ∈ g) ∧ r.length = k + 1) ∧ N'.length ≤ N.length + g.length ∧ r = .nx [.sh (.lst (dS g)), .sh (.lst (dT R)), .sh (.int (k : Int)), .ow (.lst (dT N')), .sh (.tup (dS R[j])), c5''] := by
          intro r hr
          simp only [e_mFor, e_mS, e_mSeqI, e_mVar, List.getElem?_cons_succ, List.getElem?_cons_zero, clD_sh, rb_ok, e_itL, resS_ok] at hr
          obtain ⟨e, rfl, N', c5'', hN', hNl', rfl⟩ := loop_for hr g .str 5 (by rw [List.map_map]; rfl) (fun i env => ∃ (N' : List (List Str)) (c5'' : Cl), (∀ r ∈ N', r.Nodup ∧ (∀ x ∈ r, x ∈ g) ∧ r.length = k + 1) ∧ N'.length ≤ N.length + i ∧ env = [.sh (.lst (dS g)), .sh (.lst (dT R)), .sh (.int (k : Int)), .ow (.lst (dT N')), .sh (.tup (dS R[j])), c5'']) ⟨N, _, hN, by simp, rfl⟩ (by
            rintro i env hi ⟨N', c5'', hN', hNl', rfl⟩
            have hg := List.getElem_mem hi
            by_cases q : g[i] ∈ R[j]
            · refine ⟨[.sh (.lst (dS g)), .sh (.lst (dT R)), .sh (.int (k : Int)), .ow (.lst (dT N')), .sh (.tup (dS R[j])), .sh (.str g[i])], ?_, N', _, hN', by omega, rfl⟩
              simp [q]
            · refine ⟨[.sh (.lst (dS g)), .sh (.lst (dT R)), .sh (.int (k : Int)), .ow (.lst (dT (N' ++ [R[j] ++ [g[i]]]))), .sh (.tup (dS R[j])), .sh (.str g[i])], ?_, _, _, ?_, by simp; omega, rfl⟩
              · simp [q]
                rw [show (D.tup [D.str g[i]]) = .tup (dS [g[i]]) from rfl, show (D.tup (R[j].map D.str)) = .tup (dS R[j]) from rfl, addT _ _ (by simp; omega)]
                simp
                rw [e_app _ _ (by simp; omega)]
                simp
              · intro r hr
                rcases List.mem_append.mp hr with h | h
                · exact hN' r h
                · have := List.mem_singleton.mp h
                  subst this
                  refine ⟨?_, fun x hx => ?_, by simp [r3]⟩
                  · rw [List.nodup_append]
                    refine ⟨r1, by simp, fun a ha b hb => ?_⟩
                    have := List.mem_singleton.mp hb
                    subst this
                    exact fun e => q (e ▸ ha)
                  · rcases List.mem_append.mp hx with h | h
                    · exact r2 x h
                    · have := List.mem_singleton.mp h
                      subst this
                      exact hg)
          exact ⟨N', c5'', hN', hNl', rfl⟩
        obtain ⟨N', c5'', hN', hNl', hI⟩ := inner _ rfl
        exact ⟨_, hI, N', _, _, hN', by omega, rfl⟩)
      exact ⟨N, c4', c5', hN, hNl, rfl⟩
    obtain ⟨N, c4', c5', hN, hNl, hB⟩ := body _ rfl
    refine ⟨[.sh (.lst (dS g)), .sh (.lst (dT N)), .sh (.int (k : Int)), .ow (.lst (dT N)), c4', c5'], ?_, N, _, _, _, _, hN, by rw [Nat.pow_succ]; omega, rfl⟩
    simp only [e_mSeq, e_mSetF, e_mS, e_mLstL, e_mNil, rb_ok, List.length_nil, resS_ok, List.set_cons_succ, List.set_cons_zero]
    have hz : szB 0 = true := rfl
    simp only [hz, if_true, resS_ok, sThen_nx, rb_ok, List.set_cons_succ, List.set_cons_zero, List.getElem_range, e_mSeq]
    rw [hB]
    simp)
  rw [List.length_range] at hR hlen
  refine ⟨R, by simp, Nat.le_trans hlen (pow6 hl), fun r hr => ?_⟩
  obtain ⟨h1, h2, h3⟩ := hR r hr
  exact ⟨h2, pigAll h1 h2 (by omega)⟩
end Pl

set_option autoImplicit true
set_option Elab.async false
set_option linter.all false
set_option maxRecDepth 100000
set_option maxHeartbeats 4000000
namespace Pl
open PySem Sm K49 L2
theorem nodup_map_on {α β : Type} {f : α → β} {l : List α} (h : ∀ x ∈ l, ∀ y ∈ l, f x = f y → x = y) (hn : l.Nodup) : (l.map f).Nodup :=
  List.pairwise_map.mpr (List.Pairwise.imp_of_mem (fun ha hb hne e => hne (h _ ha _ hb e)) hn)
def nth (l : List Str) (j : Nat) : Str := (l[j]?).getD ""
theorem nth_get {l : List Str} {j : Nat} (h : j < l.length) : l[j]? = some (nth l j) := by
  unfold nth; rw [List.getElem?_eq_getElem h]; rfl
theorem nth_mem {l : List Str} {j : Nat} (h : j < l.length) : nth l j ∈ l := List.mem_of_getElem? (nth_get h)
theorem nth_range (l : List Str) : (List.range l.length).map (nth l) = l := by
  apply List.ext_getElem?
  intro i
  rw [List.getElem?_map]
  by_cases h : i < l.length
  · rw [List.getElem?_range h, nth_get h]; rfl
  · rw [List.getElem?_eq_none (by simpa using h), List.getElem?_eq_none (by omega)]; rfl
theorem nth_inj {l : List Str} (hn : l.Nodup) {i j : Nat} (hi : i < l.length) (hj : j < l.length) (e : nth l i = nth l j) : i = j :=
  (List.getElem?_inj hi hn).mp (by rw [nth_get hi, nth_get hj, e])
theorem slx_mid (row : List Int) (k m : Nat) : slX (.lst (dI row)) (some (k : Int)) (some (m : Int)) = .ok (.lst (dI ((row.drop k).take (m - k)))) := by
  rw [e_slXL, cut_mid, ← List.map_drop, ← List.map_take]
theorem cut_dI (row : List Int) (k m : Nat) : cutD (dI row) (some (k : Int)) (some (m : Int)) = dI ((row.drop k).take (m - k)) := by
  rw [cut_mid, ← List.map_drop, ← List.map_take]
/-- a lot -/
def Lot (g l : List Str) : Prop := l.Nodup ∧ ∀ x ∈ l, x ∈ g
theorem Lot.len {g l : List Str} (h : Lot g l) (hg : g.length ≤ 12) : l.length ≤ 12 := Nat.le_trans (pigLen h.1 h.2) hg
theorem Lot.perm {g l m : List Str} (h : Lot g l) (p : m.Perm l) : Lot g m := ⟨p.nodup_iff.mpr h.1, fun x hx => h.2 x (p.mem_iff.mp hx)⟩
theorem Lot.snoc {g l : List Str} (h : Lot g l) {x : Str} (hx : x ∈ g) (hn : x ∉ l) : Lot g (l ++ [x]) := by
  refine ⟨?_, fun y hy => ?_⟩
  · rw [List.nodup_append]
    refine ⟨h.1, by simp, fun a ha b hb => ?_⟩
    have := List.mem_singleton.mp hb
    subst this
    exact fun e => hn (e ▸ ha)
  · rcases List.mem_append.mp hy with h' | h'
    · exact h.2 y h'
    · have := List.mem_singleton.mp h'
      subst this
      exact hx
theorem pow2_64 {k : Nat} (h : k ≤ 6) : 2 ^ k ≤ 64 := by
  have : ∀ j : Fin 7, 2 ^ j.val ≤ 64 := by decide
  exact this ⟨k, by omega⟩
/-- the turning of lots -/
abbrev tBody : En → SR := (mSeq (mSet 8 (mOp ixD (mVarT 3) (mVar 5)))
  (mMut 4 (mCons (mCB (f1 tupleD) (mCons (mFz (mComp (mSeqI (mFzO (mCallF M_law_order [] (mCons (mSl slX (mVar 1) (mOSome (mVar 5)) (mOSome (mOp addD (mVar 5) (mC (.int 12))))) (mCons (mCB (f1 lenD) (mCons (mVar 8) mNil)) mNil)))) (tgName 10)) [10] (fun _ => .ok true) (mOp ixD (mVar 8) (mVar 10)))) mNil)) mNil) appG))
theorem turn_one {l : List Str} {row : List Int} {k : Nat} (hk : k + 12 ≤ row.length) (hl : l.length ≤ 12) (a c2 c4 c5 c6 c7 c9 c11 : Cl) (Ls T : List (List Str)) (hk2 : Ls[k]? = some l) (hT : T.length ≤ 1000) (c8 c10 : Cl) :
    ∃ l', l'.Perm l ∧ tBody [a, .sh (.lst (dI row)), c2, .ow (.lst (dT Ls)), .ow (.lst (dT T)), .sh (.int (k : Int)), c6, c7, c8, c9, .un, .un] = .nx [a, .sh (.lst (dI row)), c2, .ow (.lst (dT Ls)), .ow (.lst (dT (T ++ [l']))), .sh (.int (k : Int)), c6, c7, .sh (.tup (dS l)), c9, .un, .un] := by
  obtain ⟨p, hp, hperm⟩ := order_ok ((row.drop k).take (k + 12 - k)) l.length (by simp; omega) (by omega)
  refine ⟨p.map (nth l), ?_, ?_⟩
  · have := hperm.map (nth l)
    rwa [nth_range] at this
  · have hsl : cutD (dI row) (some (k : Int)) (some ((k : Int) + 12)) = dI ((row.drop k).take (k + 12 - k)) := cut_dI row k (k + 12)
    have hpl : p.length = l.length := by rw [hperm.length_eq]; simp
    simp [tBody, hk2]
    rw [hsl]
    rw [hp]
    simp
    rw [e_szB _ (by omega)]
    simp
    generalize hq : compL _ _ _ _ = r
    have z := comp_all hq p (fun j => tgName 10 (.int (j : Int))) (fun j => .str (nth l j)) (by simp [Function.comp_def]) (fun j hj => by
      have hjl : j < l.length := by
        have := hperm.mem_iff.mp hj
        simpa using this
      exact ⟨_, rfl, rfl, by simp [nth_get hjl]⟩)
    subst z
    simp
    rw [e_app _ _ (by simp; omega)]
    simp [Function.comp_def]
theorem turned_ok {s : Se} (hs : s.Ok) {row : List Int} (hrow : row.length = 240) {Ls : List (List Str)} (hL : ∀ l ∈ Ls, Lot s.g l) (hLl : Ls.length ≤ 64) {a c2 c5 c6 c7 c8 c9 : Cl} {r : SR}
    (hr : loopM tBody ((List.range Ls.length).map fun i : Nat => tgName 5 (.int (i : Int))) [a, .sh (.lst (dI row)), c2, .ow (.lst (dT Ls)), .ow (.lst []), c5, c6, c7, c8, c9, .un, .un] = r) :
    ∃ (T : List (List Str)) (c5' c8' : Cl), r = .nx [a, .sh (.lst (dI row)), c2, .ow (.lst (dT Ls)), .ow (.lst (dT T)), c5', c6, c7, c8', c9, .un, .un] ∧ T.length = Ls.length ∧ (∀ l' ∈ T, ∃ l ∈ Ls, l'.Perm l) ∧ ∀ l ∈ Ls, ∃ l' ∈ T, l'.Perm l := by
  obtain ⟨e, rfl, T, c5', c8', h1, h2, h3, rfl⟩ := loop_for hr (List.range Ls.length) (fun i : Nat => .int (i : Int)) 5 rfl (fun k env => ∃ (T : List (List Str)) (c5' c8' : Cl), T.length = k ∧ (∀ l' ∈ T, ∃ l ∈ Ls, l'.Perm l) ∧ (∀ i l, i < k → Ls[i]? = some l → ∃ l' ∈ T, l'.Perm l) ∧ env = [a, .sh (.lst (dI row)), c2, .ow (.lst (dT Ls)), .ow (.lst (dT T)), c5', c6, c7, c8', c9, .un, .un]) ⟨[], _, _, rfl, by simp, by simp, rfl⟩ (by
    rintro k env hk ⟨T, c5', c8', h1, h2, h3, rfl⟩
    simp at hk
    have hk2 : Ls[k]? = some Ls[k] := List.getElem?_eq_getElem hk
    have hm := List.getElem_mem hk
    obtain ⟨l', hp, hB⟩ := turn_one (row := row) (k := k) (by omega) ((hL _ hm).len hs.gl) a c2 .un .un c6 c7 c9 .un Ls T hk2 (by omega) c8' .un
    refine ⟨[a, .sh (.lst (dI row)), c2, .ow (.lst (dT Ls)), .ow (.lst (dT (T ++ [l']))), .sh (.int (k : Int)), c6, c7, .sh (.tup (dS Ls[k])), c9, .un, .un], ?_, T ++ [l'], _, _, by simp [h1], fun x hx => ?_, fun i l hi hl => ?_, rfl⟩
    · simp only [List.getElem_range]
      exact hB
    · rcases List.mem_append.mp hx with h | h
      · exact h2 x h
      · have := List.mem_singleton.mp h
        subst this
        exact ⟨_, hm, hp⟩
    · by_cases e : i = k
      · subst e
        rw [hk2] at hl
        cases hl
        exact ⟨l', by simp, hp⟩
      · obtain ⟨q, hq, hqp⟩ := h3 i l (by omega) hl
        exact ⟨q, List.mem_append_left _ hq, hqp⟩)
  rw [List.length_range] at h1 h3
  refine ⟨T, _, _, rfl, h1, h2, fun l hl => ?_⟩
  obtain ⟨i, hi⟩ := List.mem_iff_getElem?.mp hl
  exact h3 i l (by
    rcases Nat.lt_or_ge i Ls.length with q | q
    · exact q
    · rw [List.getElem?_eq_none q] at hi; cases hi) hi
theorem addLL (xs ys : List D) (h : xs.length + ys.length ≤ 16777216) : addL (.lst xs) (.lst ys) = some (xs ++ ys) := by
  show (if szB (xs.length + ys.length) = true then some (xs ++ ys) else none) = _
  rw [e_szB _ h]; rfl
/-- few: every part -/
theorem lots_few {s : Se} (hs : s.Ok) (h6 : s.g.length ≤ 6) {row : D} {r : SR}
    (hr : loopM (mSetF 3 (mOp addL (mVarT 3) (mFz (mComp (mSeqT (mVarT 3) (tgName 8)) [8] (fun _ => .ok true) (mOp addD (mVar 8) (mTupL (mCons (mVar 6) mNil))))))) (s.g.map fun x => tgName 6 (.str x)) [.sh (eS s), .sh row, .sh (.lst (dS s.g)), .ow (.lst [.tup []]), .un, .un, .un, .un, .un, .un, .un, .un] = r) :
    ∃ (Ls : List (List Str)) (c6 : Cl), r = .nx [.sh (eS s), .sh row, .sh (.lst (dS s.g)), .ow (.lst (dT Ls)), .un, .un, c6, .un, .un, .un, .un, .un] ∧ Ls.length ≤ 64 ∧ (∀ l ∈ Ls, Lot s.g l) ∧ leftF s ∈ Ls := by
  obtain ⟨e, rfl, Ls, c6, h1, h2, h3, rfl⟩ := loop_for hr s.g .str 6 rfl (fun k env => ∃ (Ls : List (List Str)) (c6 : Cl), Ls.length = 2 ^ k ∧ (∀ l ∈ Ls, l.Nodup ∧ ∀ x ∈ l, x ∈ s.g.take k) ∧ (∀ p : Str → Bool, (s.g.take k).filter p ∈ Ls) ∧ env = [.sh (eS s), .sh row, .sh (.lst (dS s.g)), .ow (.lst (dT Ls)), .un, .un, c6, .un, .un, .un, .un, .un]) ⟨[[]], _, rfl, by simp, by simp, rfl⟩ (by
    rintro k env hk ⟨Ls, c6, h1, h2, h3, rfl⟩
    have hp := pow2_64 (k := k) (by omega)
    have hni : ¬ s.g[k] ∈ s.g.take k := fun q => by
      obtain ⟨j, hj⟩ := List.getElem?_of_mem q
      rw [List.getElem?_take] at hj
      by_cases hjk : j < k
      · rw [if_pos hjk] at hj
        have := (List.getElem?_inj (by omega) hs.nd).mp (hj.trans (List.getElem?_eq_getElem hk).symm)
        omega
      · rw [if_neg hjk] at hj; cases hj
    refine ⟨[.sh (eS s), .sh row, .sh (.lst (dS s.g)), .ow (.lst (dT (Ls ++ Ls.map fun l => l ++ [s.g[k]]))), .un, .un, .sh (.str s.g[k]), .un, .un, .un, .un, .un], ?_, _, _, by simp [h1, Nat.pow_succ]; omega, fun l hl => ?_, fun p => ?_, rfl⟩
    · simp
      rw [e_szB _ (by omega)]
      simp
      generalize hq : compL _ _ _ _ = r
      have z := comp_all hq Ls (fun l => tgName 8 (.tup (dS l))) (fun l => .tup (dS (l ++ [s.g[k]]))) (by simp [Function.comp_def]) (fun l hl => ⟨_, rfl, rfl, by
        have hl2 := (h2 l hl)
        have : l.length ≤ 12 := by
          have := pigLen hl2.1 hl2.2
          have := hs.gl
          rw [List.length_take] at *
          omega
        simp
        rw [show (D.tup [D.str s.g[k]]) = .tup (dS [s.g[k]]) from rfl, show (D.tup (l.map D.str)) = .tup (dS l) from rfl, addT _ _ (by simp; omega)]
        simp⟩)
      subst z
      simp
      rw [addLL _ _ (by simp; omega)]
      simp [Function.comp_def]
    · rw [List.take_succ_eq_append_getElem hk]
      rcases List.mem_append.mp hl with h | h
      · exact ⟨(h2 l h).1, fun x hx => List.mem_append_left _ ((h2 l h).2 x hx)⟩
      · obtain ⟨l0, hl0, rfl⟩ := List.mem_map.mp h
        obtain ⟨n0, s0⟩ := h2 l0 hl0
        have lt : Lot (s.g.take k ++ [s.g[k]]) l0 := ⟨n0, fun x hx => List.mem_append_left _ (s0 x hx)⟩
        exact lt.snoc (List.mem_append_right _ (List.mem_singleton.mpr rfl)) fun q => hni (s0 _ q)
    · rw [List.take_succ_eq_append_getElem hk, List.filter_append]
      by_cases hpk : p s.g[k] = true
      · refine List.mem_append_right _ (List.mem_map.mpr ⟨_, h3 p, ?_⟩)
        simp [hpk]
      · refine List.mem_append_left _ ?_
        simp [hpk]
        exact h3 p)
  rw [List.take_length] at h2 h3
  have hp := pow2_64 h6
  refine ⟨Ls, _, rfl, by omega, h2, ?_⟩
  obtain ⟨p, hp⟩ := (res_ok hs).1.lf.part
  rw [hp]
  exact h3 p
end Pl

set_option autoImplicit true
set_option Elab.async false
set_option linter.all false
set_option maxRecDepth 100000
set_option maxHeartbeats 4000000
namespace Pl
open PySem Sm K49 L2
def selF (g : List Str) (row : List Int) (k : Nat) : List Str := ((List.range g.length).filter fun j => decide (3 < (row[12 * k + j]?).getD 0)).map (nth g)
theorem sel_lot {g : List Str} (hn : g.Nodup) (row : List Int) (k : Nat) : Lot g (selF g row k) := by
  refine ⟨nodup_map_on (fun i hi j hj e => ?_) (List.nodup_range.filter _), fun x hx => ?_⟩
  · have hi := List.mem_range.mp (List.mem_filter.mp hi).1
    have hj := List.mem_range.mp (List.mem_filter.mp hj).1
    exact nth_inj hn hi hj e
  · obtain ⟨j, hj, rfl⟩ := List.mem_map.mp hx
    exact nth_mem (List.mem_range.mp (List.mem_filter.mp hj).1)
theorem first_at {g : List Str} (hne : g ≠ []) : ∃ x ∈ g, ixD (.lst (dS g)) (.int 0) = some (.str x) := by
  cases g with
  | nil => exact absurd rfl hne
  | cons a g => exact ⟨a, List.mem_cons_self, by simp⟩
theorem last_at {g : List Str} (hne : g ≠ []) : ∃ x ∈ g, ixD (.lst (dS g)) (.int (-1)) = some (.str x) := by
  rw [at_last, last_map, List.getLast?_eq_some_getLast hne]
  exact ⟨_, List.getLast_mem hne, rfl⟩
theorem Lot.part {g l : List Str} (h : Lot g l) (p : Str → Bool) : Lot g (l.filter p) := ⟨h.1.filter _, fun x hx => h.2 x (List.mem_filter.mp hx).1⟩
theorem left_lot {s : Se} (hs : s.Ok) : Lot s.g (leftF s) := by
  refine ⟨?_, left_sub hs⟩
  obtain ⟨p, hp⟩ := (res_ok hs).1.lf.part
  rw [hp]
  exact hs.nd.filter _
theorem peeled_left {s : Se} (hs : s.Ok) : ∃ xs : List D, M_law_peeled [eS s] = .ok (.lst xs) ∧ ixD (.lst xs) (.int 1) = some (.tup (dS (leftF s))) := by
  refine ⟨_, lawpeeled_ok hs, ?_⟩
  by_cases h : leftF s = []
  · rw [if_pos h, h]; rfl
  · rw [if_neg h]; rfl
theorem lots_many {s : Se} (hs : s.Ok) {row : List Int} (hrow : row.length = 240) {r : SR}
    (hr : (mSeq (mSet 7 (mOp ixD (mFzO (mCallF M_law_peeled [] (mCons (mVar 0) mNil))) (mC (.int 1))))
  (mSeq (mSetF 3 (mOp addL (mVarT 3) (mFz (mLstL (mCons (mVar 7) (mCons (mCB (f1 tupleD) (mCons (mVar 2) mNil)) (mCons (mTupL (mCons (mOp ixD (mVar 2) (mC (.int 0))) mNil)) (mCons (mTupL (mCons (mOp ixD (mVar 2) (mUn negD (mC (.int 1)))) mNil)) mNil))))))))
  (mSeq (mFor (mSeqI (mVar 2) (tgName 6)) (mIfS (mTest (mOp inY (mVar 6) (mVar 7))) (mMut 3 (mCons (mCB (f1 tupleD) (mCons (mFz (mComp (mSeqI (mVar 7) (tgName 11)) [11] (mTest (mOp neD (mVar 11) (mVar 6))) (mVar 11))) mNil)) mNil) appG) (mMut 3 (mCons (mOp addD (mVar 7) (mTupL (mCons (mVar 6) mNil))) mNil) appG)))
  (mFor (mRng1 (mC (.int 20)) (tgName 5)) (mSeq (mSet 9 (mSl slX (mVar 1) (mOSome (mOp mulD (mC (.int 12)) (mVar 5))) (mOSome (mOp addD (mOp mulD (mC (.int 12)) (mVar 5)) (mC (.int 12))))))
  (mMut 3 (mCons (mCB (f1 tupleD) (mCons (mFz (mComp (mRng1 (mCB (f1 lenD) (mCons (mVar 2) mNil)) (tgName 10)) [10] (mTest (mOp gtX (mOp ixD (mVar 9) (mVar 10)) (mC (.int 3)))) (mOp ixD (mVar 2) (mVar 10)))) mNil)) mNil) appG)))))) [.sh (eS s), .sh (.lst (dI row)), .sh (.lst (dS s.g)), .ow (.lst [.tup []]), .un, .un, .un, .un, .un, .un, .un, .un] = r) :
    ∃ (Ls : List (List Str)) (c5 c6 c7 c9 : Cl), r = .nx [.sh (eS s), .sh (.lst (dI row)), .sh (.lst (dS s.g)), .ow (.lst (dT Ls)), .un, c5, c6, c7, .un, c9, .un, .un] ∧ Ls.length ≤ 64 ∧ (∀ l ∈ Ls, Lot s.g l) ∧ leftF s ∈ Ls := by
  subst hr
  have hgl := hs.gl
  obtain ⟨xs, hp1, hp2⟩ := peeled_left hs
  obtain ⟨a, ha, ea⟩ := first_at hs.ne
  obtain ⟨b, hb, eb⟩ := last_at hs.ne
  have e4 : ((([] : List Str) :: [leftF s, s.g, [a], [b]]).length) = 5 := rfl
  simp only [e_mSeq, e_mSet, e_mS, e_mOp, e_mFzO, e_mCallF, e_mCons, e_mVar, e_mNil, e_mC, List.getElem?_cons_succ, List.getElem?_cons_zero, clD_sh, rb_ok, List.append_nil, hp1, obd_l, hp2, e_ofO_some, resS_ok, sThen_nx, List.set_cons_succ, List.set_cons_zero]
  generalize hB2 : (mFor (mRng1 _ _) _ : En → SR) = B2
  generalize hB1 : (mFor (mSeqI _ _) _ : En → SR) = B1
  have hz1 : szB 1 = true := rfl
  have hz4 : szB 4 = true := rfl
  simp [ea, eb, hz1, hz4]
  rw [addLL _ _ (by simp)]
  simp
  have st1 : ∃ (Ls : List (List Str)) (c6 : Cl), B1 [.sh (eS s), .sh (.lst (dI row)), .sh (.lst (dS s.g)), .ow (.lst [.tup [], .tup (dS (leftF s)), .tup (dS s.g), .tup [.str a], .tup [.str b]]), .un, .un, .un, .sh (.tup (dS (leftF s))), .un, .un, .un, .un] =
      .nx [.sh (eS s), .sh (.lst (dI row)), .sh (.lst (dS s.g)), .ow (.lst (dT Ls)), .un, .un, c6, .sh (.tup (dS (leftF s))), .un, .un, .un, .un] ∧ Ls.length ≤ 17 ∧ (∀ l ∈ Ls, Lot s.g l) ∧ leftF s ∈ Ls := by
    subst hB1
    simp only [e_mFor, e_mS, e_mSeqI, e_mVar, List.getElem?_cons_succ, List.getElem?_cons_zero, clD_sh, rb_ok, e_itL, resS_ok]
    generalize hr : loopM _ _ _ = r
    obtain ⟨e, rfl, Ls, c6, h1, h2, h3, rfl⟩ := loop_for hr s.g .str 6 (by rw [List.map_map]; rfl) (fun k env => ∃ (Ls : List (List Str)) (c6 : Cl), Ls.length = 5 + k ∧ (∀ l ∈ Ls, Lot s.g l) ∧ leftF s ∈ Ls ∧ env = [.sh (eS s), .sh (.lst (dI row)), .sh (.lst (dS s.g)), .ow (.lst (dT Ls)), .un, .un, c6, .sh (.tup (dS (leftF s))), .un, .un, .un, .un]) ⟨[[], leftF s, s.g, [a], [b]], _, rfl, (by
        intro l hl
        simp only [List.mem_cons, List.not_mem_nil, or_false] at hl
        rcases hl with rfl | rfl | rfl | rfl | rfl
        · exact ⟨List.nodup_nil, by simp⟩
        · exact left_lot hs
        · exact ⟨hs.nd, fun x h => h⟩
        · exact ⟨by simp, fun x hx => by rw [List.mem_singleton.mp hx]; exact ha⟩
        · exact ⟨by simp, fun x hx => by rw [List.mem_singleton.mp hx]; exact hb⟩), by simp, rfl⟩ (by
      rintro k env hk ⟨Ls, c6, h1, h2, h3, rfl⟩
      have hg := List.getElem_mem hk
      have hll := (left_lot hs).len hgl
      by_cases q : s.g[k] ∈ leftF s
      · refine ⟨[.sh (eS s), .sh (.lst (dI row)), .sh (.lst (dS s.g)), .ow (.lst (dT (Ls ++ [off s.g[k] (leftF s)]))), .un, .un, .sh (.str s.g[k]), .sh (.tup (dS (leftF s))), .un, .un, .un, .un], ?_, _, _, by simp [h1]; omega, fun l hl => ?_, List.mem_append_left _ h3, rfl⟩
        · simp [q]
          rw [e_szB _ (by omega)]
          simp
          generalize hq : compL _ _ _ _ = r
          have z := comp_map hq (leftF s) (fun x => tgName 11 (.str x)) (fun x => !decide (x = s.g[k])) .str (by simp [Function.comp_def]) (fun y hy => ⟨_, rfl, by simp [ne_ss (hs.nm _ (left_sub hs y hy)) (hs.nm _ hg)], fun _ => by simp⟩)
          subst z
          simp
          rw [e_app _ _ (by simp; omega)]
          simp [off]
        · rcases List.mem_append.mp hl with h | h
          · exact h2 l h
          · rw [List.mem_singleton.mp h]
            exact (left_lot hs).part _
      · refine ⟨[.sh (eS s), .sh (.lst (dI row)), .sh (.lst (dS s.g)), .ow (.lst (dT (Ls ++ [leftF s ++ [s.g[k]]]))), .un, .un, .sh (.str s.g[k]), .sh (.tup (dS (leftF s))), .un, .un, .un, .un], ?_, _, _, by simp [h1]; omega, fun l hl => ?_, List.mem_append_left _ h3, rfl⟩
        · simp [q, hz1]
          rw [show (D.tup [D.str s.g[k]]) = .tup (dS [s.g[k]]) from rfl, addT _ _ (by simp; omega)]
          simp
          rw [e_app _ _ (by simp; omega)]
          simp
        · rcases List.mem_append.mp hl with h | h
          · exact h2 l h
          · rw [List.mem_singleton.mp h]
            exact (left_lot hs).snoc hg q)
    exact ⟨Ls, _, rfl, by omega, h2, h3⟩
  obtain ⟨Ls, c6, hE, hl, h2, h3⟩ := st1
  rw [hE]
  simp only [sThen_nx]
  subst hB2
  simp only [e_mFor, e_mS, e_mRng1, e_mC, rb_ok]
  have e20 : rngD (.int 0) (.int 20) = .ok ((List.range 20).map fun i : Nat => .int (i : Int)) := e_rng 20 (by omega)
  rw [e20]
  simp only [rb_ok, resS_ok]
  generalize hr : loopM _ _ _ = r
  obtain ⟨e, rfl, Ls, c5, c9, h1, h2, h3, rfl⟩ := loop_for hr (List.range 20) (fun i : Nat => .int (i : Int)) 5 (by rw [List.map_map]; rfl) (fun k env => ∃ (Ls : List (List Str)) (c5 c9 : Cl), Ls.length ≤ 17 + k ∧ (∀ l ∈ Ls, Lot s.g l) ∧ leftF s ∈ Ls ∧ env = [.sh (eS s), .sh (.lst (dI row)), .sh (.lst (dS s.g)), .ow (.lst (dT Ls)), .un, c5, c6, .sh (.tup (dS (leftF s))), .un, c9, .un, .un]) ⟨Ls, _, _, hl, h2, h3, rfl⟩ (by
    rintro k env hk ⟨Ls, c5, c9, h1, h2, h3, rfl⟩
    simp at hk
    refine ⟨[.sh (eS s), .sh (.lst (dI row)), .sh (.lst (dS s.g)), .ow (.lst (dT (Ls ++ [selF s.g row k]))), .un, .sh (.int (k : Int)), c6, .sh (.tup (dS (leftF s))), .un, .sh (.lst (dI ((row.drop (12 * k)).take (12 * k + 12 - 12 * k)))), .un, .un], ?_, _, _, _, by simp; omega, fun l hl => ?_, List.mem_append_left _ h3, rfl⟩
    · have hm : mulD (.int 12) (.int (k : Int)) = some (.int (12 * (k : Int))) := e_mul 12 k 4 30 (by decide) (by omega) (by omega)
      have hc : cutD (dI row) (some (12 * (k : Int))) (some (12 * (k : Int) + 12)) = dI ((row.drop (12 * k)).take (12 * k + 12 - 12 * k)) := cut_dI row (12 * k) (12 * k + 12)
      simp only [List.getElem_range]
      simp [hm]
      rw [hc]
      rw [e_rng _ (by omega)]
      simp
      rw [e_szB _ (by omega)]
      simp
      generalize hq : compL _ _ _ _ = r
      have z := comp_map hq (List.range s.g.length) (fun j => tgName 10 (.int (j : Int))) (fun j => decide (3 < (row[12 * k + j]?).getD 0)) (fun j => .str (nth s.g j)) (by simp [Function.comp_def]) (fun j hj => by
        have hj := List.mem_range.mp hj
        have hj2 : j < 12 := by omega
        have hj3 : 12 * k + j < row.length := by omega
        have hg : row[12 * k + j]? = some ((row[12 * k + j]?).getD 0) := by rw [List.getElem?_eq_getElem hj3]; rfl
        generalize hv : (row[12 * k + j]?).getD 0 = v at hg
        exact ⟨_, rfl, by simp [List.getElem?_take, List.getElem?_drop, hj2, hg], fun _ => by simp [nth_get hj]⟩)
      subst z
      simp
      rw [e_app _ _ (by simp; omega)]
      simp [selF, Function.comp_def]
    · rcases List.mem_append.mp hl with h | h
      · exact h2 l h
      · rw [List.mem_singleton.mp h]
        exact sel_lot hs.nd row k)
  rw [List.length_range] at h1
  exact ⟨Ls, ⟨_, _, _, _, rfl⟩, by omega, h2, h3⟩
/-- the lots that are drawn -/
theorem lots_ok {s : Se} (hs : s.Ok) {row : List Int} (hrow : row.length = 240) : ∃ T : List (List Str), M_law_lots [eS s, .lst (dI row)] = .ok (.lst (dT T)) ∧ T.length ≤ 64 ∧ (∀ l ∈ T, Lot s.g l) ∧ ∃ l ∈ T, l.Perm (leftF s) := by
  have hgl := hs.gl
  have mid : ∃ (Ls : List (List Str)) (c5 c6 c7 c9 : Cl), (mIfS (mTest (mOp leX (mCB (f1 lenD) (mCons (mVar 2) mNil)) (mC (.int 6)))) (mFor (mSeqI (mVar 2) (tgName 6)) (mSetF 3 (mOp addL (mVarT 3) (mFz (mComp (mSeqT (mVarT 3) (tgName 8)) [8] (fun _ => .ok true) (mOp addD (mVar 8) (mTupL (mCons (mVar 6) mNil)))))))) (mSeq (mSet 7 (mOp ixD (mFzO (mCallF M_law_peeled [] (mCons (mVar 0) mNil))) (mC (.int 1))))
  (mSeq (mSetF 3 (mOp addL (mVarT 3) (mFz (mLstL (mCons (mVar 7) (mCons (mCB (f1 tupleD) (mCons (mVar 2) mNil)) (mCons (mTupL (mCons (mOp ixD (mVar 2) (mC (.int 0))) mNil)) (mCons (mTupL (mCons (mOp ixD (mVar 2) (mUn negD (mC (.int 1)))) mNil)) mNil))))))))
  (mSeq (mFor (mSeqI (mVar 2) (tgName 6)) (mIfS (mTest (mOp inY (mVar 6) (mVar 7))) (mMut 3 (mCons (mCB (f1 tupleD) (mCons (mFz (mComp (mSeqI (mVar 7) (tgName 11)) [11] (mTest (mOp neD (mVar 11) (mVar 6))) (mVar 11))) mNil)) mNil) appG) (mMut 3 (mCons (mOp addD (mVar 7) (mTupL (mCons (mVar 6) mNil))) mNil) appG)))
  (mFor (mRng1 (mC (.int 20)) (tgName 5)) (mSeq (mSet 9 (mSl slX (mVar 1) (mOSome (mOp mulD (mC (.int 12)) (mVar 5))) (mOSome (mOp addD (mOp mulD (mC (.int 12)) (mVar 5)) (mC (.int 12))))))
  (mMut 3 (mCons (mCB (f1 tupleD) (mCons (mFz (mComp (mRng1 (mCB (f1 lenD) (mCons (mVar 2) mNil)) (tgName 10)) [10] (mTest (mOp gtX (mOp ixD (mVar 9) (mVar 10)) (mC (.int 3)))) (mOp ixD (mVar 2) (mVar 10)))) mNil)) mNil) appG))))))) [.sh (eS s), .sh (.lst (dI row)), .sh (.lst (dS s.g)), .ow (.lst [.tup []]), .un, .un, .un, .un, .un, .un, .un, .un] = .nx [.sh (eS s), .sh (.lst (dI row)), .sh (.lst (dS s.g)), .ow (.lst (dT Ls)), .un, c5, c6, c7, .un, c9, .un, .un] ∧ Ls.length ≤ 64 ∧ (∀ l ∈ Ls, Lot s.g l) ∧ leftF s ∈ Ls := by
    simp only [e_mIfS, e_mS, e_mTest, e_mOp, e_mCB, e_mCons, e_mNil, e_mVar, e_mC, List.getElem?_cons_succ, List.getElem?_cons_zero, clD_sh, rb_ok, e_f1, e_lenL, e_le, e_ofO_some, e_asB, resS_ok, List.length_map]
    by_cases h6 : s.g.length ≤ 6
    · rw [if_pos (decide_eq_true (by omega))]
      simp only [e_mFor, e_mS, e_mSeqI, e_mVar, List.getElem?_cons_succ, List.getElem?_cons_zero, clD_sh, rb_ok, e_itL, resS_ok]
      obtain ⟨Ls, c6, h1, h2, h3, h4⟩ := lots_few hs h6 (row := .lst (dI row)) rfl
      refine ⟨Ls, .un, c6, .un, .un, ?_, h2, h3, h4⟩
      rw [List.map_map]
      exact h1
    · rw [if_neg (by simp; omega)]
      obtain ⟨Ls, c5, c6, c7, c9, h1, h2, h3, h4⟩ := lots_many hs hrow rfl
      exact ⟨Ls, c5, c6, c7, c9, h1, h2, h3, h4⟩
  obtain ⟨Ls, c5, c6, c7, c9, hM, hl, hL, hm⟩ := mid
  unfold M_law_lots m_law_lots
  rw [e_runF]
  simp only [List.length_cons, List.length_nil, if_true, e_envOf, List.map_cons, List.map_nil]
  rw [show ([Cl.sh (eS s), Cl.sh (.lst (dI row))] ++ List.replicate (12 - (0 + 1 + 1)) Cl.un) = [.sh (eS s), .sh (.lst (dI row)), .un, .un, .un, .un, .un, .un, .un, .un, .un, .un] from rfl]
  rw [e_mSeq, e_mSet]
  simp only [e_mS, e_mOp, e_mVar, e_mC, List.getElem?_cons_zero, clD_sh, rb_ok, eS0, e_ofO_some, resS_ok, sThen_nx, List.set_cons_succ, List.set_cons_zero]
  rw [e_mSeq, e_mSetF]
  have hz0 : szB 0 = true := rfl
  have hz1 : szB 1 = true := rfl
  simp only [e_mS, e_mLstL, e_mCons, e_mTupL, e_mNil, rb_ok, List.length_nil, hz0, if_true, List.length_cons, hz1, resS_ok, sThen_nx, List.set_cons_succ, List.set_cons_zero, Nat.zero_add]
  rw [e_mSeq, hM]
  simp only [sThen_nx, e_mSeq, e_mSetF, e_mS, e_mLstL, e_mNil, rb_ok, List.length_nil, hz0, if_true, resS_ok, List.set_cons_succ, List.set_cons_zero, e_mFor, e_mRng1, e_mCB, e_mCons, e_mVarT, List.getElem?_cons_succ, List.getElem?_cons_zero, clT_ow, e_f1, e_lenL, List.length_map]
  rw [e_rng _ (by omega)]
  simp only [rb_ok, resS_ok, List.map_map]
  obtain ⟨T, c5', c8', h1, h2, h3, h4⟩ := turned_ok hs hrow hL hl (a := .sh (eS s)) (c2 := .sh (.lst (dS s.g))) (c5 := c5) (c6 := c6) (c7 := c7) (c8 := .un) (c9 := c9) rfl
  refine ⟨T, ?_, by omega, fun l' hl' => ?_, ?_⟩
  · have e : (tgName 5 ∘ fun i : Nat => D.int (i : Int)) = fun i : Nat => tgName 5 (.int (i : Int)) := rfl
    rw [e]
    have h1' := congrArg (fun z => outF (sThen z (mRetOw 4))) h1
    exact h1'
  · obtain ⟨l, hl, hp⟩ := h3 l' hl'
    exact (hL l hl).perm hp
  · exact h4 _ hm
end Pl

set_option autoImplicit true
set_option Elab.async false
set_option linter.all false
set_option maxRecDepth 100000
set_option maxHeartbeats 4000000
namespace Pl
open PySem Sm K49 L2
theorem stuck_sub {s : Se} (hs : s.Ok) {l : List Str} (hl : Lot s.g l) (h : stuckF s l = true) : l ≠ [] ∧ (∀ x ∈ l, x ∈ leftF s) := by
  unfold stuckF at h
  rw [Bool.and_eq_true, decide_eq_true_eq, List.all_eq_true] at h
  exact ⟨fun e => by rw [e] at h; exact absurd h.1 (by simp), stuck_left hs hl.2 h.2⟩
theorem tru_bl (b : Bool) : truB (.bl b) = .ok b := rfl
theorem isi_bool (b : Bool) : isiD ["bool"] (.bl b) = some (.bl true) := rfl
theorem judged_ok {s : Se} (hs : s.Ok) {T : List (List Str)} (hT : ∀ l ∈ T, Lot s.g l) (b : Bool) : M_law_judged [SOb s, eS s, .lst (dT T), .tup (dS (leftF s)), .bl b] = .ok (.lst [.bl true, .bl (T.any (stuckF s))]) := by
  simp [M_law_judged, m_law_judged]
  generalize hr : loopM _ _ _ = r
  obtain ⟨e, rfl, c6, c7, c8, rfl⟩ := loop_for hr T (fun r => .tup (dS r)) 6 rfl (fun k env => ∃ (c6 c7 c8 : Cl), env = [.sh (SOb s), .sh (eS s), .sh (.lst (dT T)), .sh (.tup (dS (leftF s))), .sh (.bl b), .sh (.bl ((T.take k).any (stuckF s))), c6, c7, c8, .un]) ⟨_, _, _, rfl⟩ (by
    rintro k env hk ⟨c6, c7, c8, rfl⟩
    have hm := List.getElem_mem hk
    have hl := hT _ hm
    have hlen := hl.len hs.gl
    have hok : ∀ x ∈ T[k], sOk x := fun x hx => hs.nm x (hl.2 x hx)
    obtain ⟨told, ht, hs1⟩ : ∃ told : D, (told = .lst (dS T[k]) ∨ told = .tup (dS T[k])) ∧ told = if b then .lst (dS T[k]) else .tup (dS T[k]) := by
      cases b with
      | true => exact ⟨_, .inl rfl, rfl⟩
      | false => exact ⟨_, .inr rfl, rfl⟩
    have htt : tupleD told = .ok (.tup (dS T[k])) := by rcases ht with rfl | rfl <;> rfl
    have hst := stuck_ok hs (by omega) hl.2 ht
    have hls := lawstuck_ok hs hl.2
    refine ⟨[.sh (SOb s), .sh (eS s), .sh (.lst (dT T)), .sh (.tup (dS (leftF s))), .sh (.bl b), .sh (.bl ((T.take (k + 1)).any (stuckF s))), .sh (.tup (dS T[k])), .sh told, .sh (.bl (stuckF s T[k])), .un], ?_, _, _, _, rfl⟩
    rw [any_snoc _ _ _ hk]
    generalize hA : (T.take k).any (stuckF s) = A
    cases hb : b with
    | true =>
      rw [hb] at hs1
      rw [if_pos rfl] at hs1
      subst hs1
      simp [hst, hls, isi_bool, ne_tS hok hok]
      cases hsf : stuckF s T[k] with
      | false => simp
      | true =>
        have hsub := (stuck_sub hs hl hsf).2
        simp
        rw [e_szB _ (by omega)]
        simp
        generalize hq : compL _ _ _ _ = r
        have z := comp_map hq T[k] (fun x => tgName 9 (.str x)) (fun x => !decide (x ∈ leftF s)) .str (by simp [Function.comp_def]) (fun y hy => ⟨_, rfl, by simp, fun _ => by simp⟩)
        subst z
        have hf : (T[k].filter fun x => !decide (x ∈ leftF s)) = [] := List.filter_eq_nil_iff.mpr fun x hx => by simp [hsub x hx]
        rw [hf]
        simp
    | false =>
      rw [hb] at hs1
      rw [if_neg Bool.false_ne_true] at hs1
      subst hs1
      simp [hst, hls, isi_bool, ne_tS hok hok]
      cases hsf : stuckF s T[k] with
      | false => simp
      | true =>
        have hsub := (stuck_sub hs hl hsf).2
        simp
        rw [e_szB _ (by omega)]
        simp
        generalize hq : compL _ _ _ _ = r
        have z := comp_map hq T[k] (fun x => tgName 9 (.str x)) (fun x => !decide (x ∈ leftF s)) .str (by simp [Function.comp_def]) (fun y hy => ⟨_, rfl, by simp, fun _ => by simp⟩)
        subst z
        have hf : (T[k].filter fun x => !decide (x ∈ leftF s)) = [] := List.filter_eq_nil_iff.mpr fun x hx => by simp [hsub x hx]
        rw [hf]
        simp)
  rw [List.take_length]
  simp
theorem peeled_both {s : Se} (hs : s.Ok) : ∃ xs : List D, M_law_peeled [eS s] = .ok (.lst xs) ∧ ixD (.lst xs) (.int 0) = some (ordD s) ∧ ixD (.lst xs) (.int 1) = some (.tup (dS (leftF s))) := by
  refine ⟨_, lawpeeled_ok hs, ?_, ?_⟩
  · unfold ordD
    by_cases h : leftF s = []
    · rw [if_pos h, if_pos h]; rfl
    · rw [if_neg h, if_neg h]; rfl
  · by_cases h : leftF s = []
    · rw [if_pos h, h]; rfl
    · rw [if_neg h]; rfl
theorem stuckF_left {s : Se} (hs : s.Ok) : stuckF s (leftF s) = !decide (leftF s = []) := by
  have hh := (res_ok hs).2
  unfold stuckF
  have : ((leftF s).all fun c => heldF s (leftF s) c) = true := List.all_eq_true.mpr hh
  rw [this]
  cases q : leftF s with
  | nil => rfl
  | cons a l => simp
theorem ord_sub {s : Se} (hs : s.Ok) : ∀ x ∈ ordF s, x ∈ s.g := fun x hx => ((res_ok hs).1.mem x).mpr (.inr hx)
theorem ord_len {s : Se} (hs : s.Ok) : (ordF s).length ≤ 12 := Nat.le_trans (pigLen (res_ok hs).1.nd (ord_sub hs)) hs.gl
theorem right_ok {s : Se} (hs : s.Ok) : M_law_right [SOb s, eS s, POb s] = .ok (.bl true) := by
  have hgl := hs.gl
  obtain ⟨xs, h1, h2, h3⟩ := peeled_both hs
  have hlot := left_lot hs
  have hlen := hlot.len hgl
  have hst := stuck_ok hs (lot := leftF s) (by omega) hlot.2 (.inr rfl)
  have hls := lawstuck_ok hs hlot.2
  rw [stuckF_left hs] at hst hls
  have hsd : M_law_same 5 [ordD s, ordD s] = .ok (.bl true) := same_ok (by
    unfold ordD
    by_cases h : leftF s = []
    · rw [if_pos h]
      exact sd_names (n := 3) (fun x hx => hs.nm x (ord_sub hs x hx)) (by have := ord_len hs; omega)
    · rw [if_neg h]
      trivial)
  have hsl : M_law_same 5 [.tup (dS (leftF s)), .tup (dS (leftF s))] = .ok (.bl true) := same_ok (sd_names (n := 3) (fun x hx => hs.nm x (hlot.2 x hx)) (by omega))
  by_cases h : leftF s = []
  · have ho : ordD s = .tup (dS (ordF s)) := by unfold ordD; rw [if_pos h]
    have hpe := (res_ok hs).1
    rw [h] at hpe
    have hfit := peel_fits hs hpe
    have hall : ∀ x ∈ s.g, x ∈ ordF s := fun x hx => by
      rcases (hpe.mem x).mp hx with z | z
      · cases z
      · exact z
    have hlf := lawfits_ok hs (o := ordF s) (fun x hx => hs.nm x (ord_sub hs x hx)) hall (.inr rfl)
    rw [hfit] at hlf
    rw [ho] at h2 hsd
    simp [M_law_right, m_law_right, h1, h2, h3, hsd, hsl, hst, ho, isi_bool]
    simp [h, ho, hlf]
  · have ho : ordD s = .non := by unfold ordD; rw [if_neg h]
    have hl2 := List.length_pos_iff.mpr h
    rw [ho] at h2 hsd
    have hd : decide (leftF s = []) = false := decide_eq_false h
    rw [hd] at hst hls
    simp [M_law_right, m_law_right, h1, h2, h3, hsd, hsl, hst, hls, ho, isi_bool]
    by_cases h6 : (6 : Int) < (s.g.length : Int)
    · simp [h6]
    · obtain ⟨R, hR, hRl, hRm⟩ := laworders_ok hs.nd (by omega)
      simp [h6, hR]
      rw [e_szB _ (by omega)]
      simp
      generalize hq : compL _ _ _ _ = r
      have z := comp_map hq R (fun r => tgName 5 (.tup (dS r))) (fun _ => false) (fun r => .non) (by simp [Function.comp_def]) (fun r hr => ⟨_, rfl, by
        obtain ⟨m1, m2⟩ := hRm r hr
        have hf := lawfits_ok hs (o := r) (fun x hx => hs.nm x (m1 x hx)) m2 (.inr rfl)
        rw [stuck_nofit hs h (res_ok hs).2 (fun x hx => m2 x (hlot.2 x hx))] at hf
        simp [hf], fun q => by cases q⟩)
      subst z
      simp
theorem asked_ok {s : Se} (hs : s.Nm) {T : List (List Str)} (hT : ∀ l ∈ T, Lot s.g l) (b : Bool) : M_law_asked [SOb s, eS s, .lst (dT T), .bl b] = .ok (POb s) := by
  have hj := judged_ok hs.toOk hT b
  obtain ⟨A, hA⟩ : ∃ A, T.any (stuckF s) = A := ⟨_, rfl⟩
  rw [hA] at hj
  simp [M_law_asked, m_law_asked, peel_ok hs.toOk, right_ok hs.toOk, hj]
  cases A with
  | false => simp
  | true =>
    obtain ⟨l, hl, hsf⟩ := List.any_eq_true.mp hA
    obtain ⟨n1, n2⟩ := stuck_sub hs.toOk (hT l hl) hsf
    have h : leftF s ≠ [] := fun e => by
      obtain ⟨x, hx⟩ := List.exists_mem_of_ne_nil l n1
      have := n2 x hx
      rw [e] at this
      cases this
    have ho : ordD s = .non := by unfold ordD; rw [if_neg h]
    simp [ho]
end Pl

set_option autoImplicit true
set_option Elab.async false
set_option linter.all false
set_option maxRecDepth 100000
set_option maxHeartbeats 4000000
namespace Pl
open PySem Sm K49 L2
/-! ### what the law draws -/
theorem e_mod_lt {xs : List Str} (v : Int) (h : xs ≠ []) : ∃ q : Nat, q < xs.length ∧ modD (.int v) (.int (xs.length : Int)) = some (.int (q : Int)) := by
  have hp : (0 : Int) < (xs.length : Int) := by have := List.length_pos_iff.mpr h; omega
  obtain ⟨q, hq⟩ : ∃ q : Nat, v % (xs.length : Int) = (q : Int) := ⟨(v % (xs.length : Int)).toNat, (Int.toNat_of_nonneg (Int.emod_nonneg _ (by omega))).symm⟩
  refine ⟨q, ?_, by rw [e_mod _ _ hp, hq]⟩
  have := Int.emod_lt_of_pos v hp
  omega
/-- one of a list's, by a digit -/
theorem pickS {xs : List Str} (v : Int) (h : xs ≠ []) : ∃ q : Nat, modD (.int v) (.int (xs.length : Int)) = some (.int (q : Int)) ∧ xs[q]? = some (nth xs q) ∧ nth xs q ∈ xs := by
  obtain ⟨q, h1, h2⟩ := e_mod_lt v h
  exact ⟨q, h2, nth_get h1, nth_mem h1⟩
theorem rowI {row : List Int} {i : Nat} (h : i < row.length) : row[i]? = some ((row[i]?).getD 0) := by rw [List.getElem?_eq_getElem h]; rfl
theorem filter_one {g : List Str} (hn : g.Nodup) {c : Str} (hc : c ∈ g) : [c] = g.filter fun x => decide (x ∈ [c]) := by
  induction g with
  | nil => cases hc
  | cons a g ih =>
    rw [List.nodup_cons] at hn
    by_cases e : a = c
    · subst e
      have : (g.filter fun x => decide (x ∈ [a])) = [] := List.filter_eq_nil_iff.mpr fun x hx q => by
        have : x = a := by simpa using q
        exact hn.1 (this ▸ hx)
      rw [List.filter_cons, this]
      simp
    · have hc' : c ∈ g := (List.mem_cons.mp hc).resolve_left fun z => e z.symm
      rw [List.filter_cons, ← ih hn.2 hc']
      simp [e]
/-- a taking that is drawn -/
theorem lawtaking_ok {g rk : List Str} {w : List Int} {wild : Int} {row : List Int} (hn : g.Nodup) (hne : g ≠ []) (hl : g.length ≤ 12) (hok : ∀ x ∈ g, sOk x) (hrk : rk.Perm g) (hw : w.length = g.length) (hpos : ∀ d ∈ w, 1 ≤ d) (hrow : 15 ≤ row.length) :
    ∃ t : Tk, M_law_taking [.lst (dS g), .lst (dI w), .lst (dS rk), .int wild, .lst (dI row)] = .ok (eK t) ∧ t.1 ∈ g ∧ t.2.1 ∈ t.2.2 ∧ t.2.2 = g.filter fun x => decide (x ∈ t.2.2) := by
  have r0 := rowI (row := row) (i := 0) (by omega)
  have r1 := rowI (row := row) (i := 1) (by omega)
  have r2 := rowI (row := row) (i := 2) (by omega)
  generalize (row[0]?).getD 0 = v0 at r0
  generalize (row[1]?).getD 0 = v1 at r1
  generalize (row[2]?).getD 0 = v2 at r2
  obtain ⟨q0, m0, g0, n0⟩ := pickS v0 hne
  have hgw : q0 < w.length := by
    rw [hw]
    rcases Nat.lt_or_ge q0 g.length with q | q
    · exact q
    · rw [List.getElem?_eq_none q] at g0; cases g0
  obtain ⟨dq, hdq, hdp⟩ : ∃ d, w[q0]? = some d ∧ 1 ≤ d := ⟨w[q0], List.getElem?_eq_getElem hgw, hpos _ (List.getElem_mem hgw)⟩
  -- those that hang
  obtain ⟨js, hjs⟩ : ∃ js, js = (List.range g.length).filter fun j => decide (0 < (row[3 + j]?).getD 0) := ⟨_, rfl⟩
  obtain ⟨H0, hH0⟩ : ∃ H, H = js.map (nth g) := ⟨_, rfl⟩
  have H0n : H0.Nodup := by
    rw [hH0]
    refine nodup_map_on (fun i hi j hj e => ?_) (by rw [hjs]; exact List.nodup_range.filter _)
    rw [hjs] at hi hj
    exact nth_inj hn (List.mem_range.mp (List.mem_filter.mp hi).1) (List.mem_range.mp (List.mem_filter.mp hj).1) e
  have H0f : H0 = g.filter fun x => decide (x ∈ H0) := by
    have e1 : g.filter (fun x => decide (x ∈ H0)) = ((List.range g.length).map (nth g)).filter fun x => decide (x ∈ H0) := by rw [nth_range]
    rw [e1, List.filter_map, hH0, hjs]
    congr 1
    refine List.filter_congr fun i hi => ?_
    have hi := List.mem_range.mp hi
    simp only [Function.comp_def]
    rw [decide_eq_decide]
    constructor
    · intro h
      exact List.mem_map.mpr ⟨i, List.mem_filter.mpr ⟨List.mem_range.mpr hi, decide_eq_true h⟩, rfl⟩
    · intro h
      obtain ⟨j, hj, e⟩ := List.mem_map.mp h
      have hj := List.mem_filter.mp hj
      have := nth_inj hn (List.mem_range.mp hj.1) hi e
      subst this
      simpa using hj.2
  obtain ⟨q2, m2, g2, n2⟩ := pickS v2 hne
  obtain ⟨H, hH, Hne, Hf⟩ : ∃ H : List Str, H = (if H0 = [] then [nth g q2] else H0) ∧ H ≠ [] ∧ H = g.filter fun x => decide (x ∈ H) := by
    by_cases h : H0 = []
    · refine ⟨_, rfl, by rw [if_pos h]; simp, ?_⟩
      rw [if_pos h]
      exact filter_one hn n2
    · exact ⟨_, rfl, by rw [if_neg h]; exact h, by rw [if_neg h]; exact H0f⟩
  have Hg : ∀ x ∈ H, x ∈ g := fun x hx => by rw [Hf] at hx; exact (List.mem_filter.mp hx).1
  have Hl : H.length ≤ 12 := by rw [Hf]; exact Nat.le_trans (List.length_filter_le ..) hl
  obtain ⟨q3, m3, g3, n3⟩ := pickS v2 Hne
  obtain ⟨K, hK⟩ : ∃ K, K = rk.filter fun x => decide (x ∈ H) := ⟨_, rfl⟩
  have Kne : K ≠ [] := by
    obtain ⟨x, hx⟩ := List.exists_mem_of_ne_nil H Hne
    have : x ∈ K := by rw [hK]; exact List.mem_filter.mpr ⟨hrk.mem_iff.mpr (Hg x hx), decide_eq_true hx⟩
    exact List.ne_nil_of_mem this
  have Kl := List.length_pos_iff.mpr Kne
  have hrkl : rk.length = g.length := hrk.length_eq
  obtain ⟨mn, hmn, hmp, hml⟩ : ∃ mn : Int, min2D (.int (K.length : Int)) (.int dq) = some (.int mn) ∧ 0 < mn ∧ mn ≤ (K.length : Int) := by
    rw [e_min]
    by_cases h : dq < (K.length : Int)
    · exact ⟨dq, by rw [if_pos h], by omega, by omega⟩
    · exact ⟨_, by rw [if_neg h], by omega, by omega⟩
  obtain ⟨q4, m4, g4, n4⟩ : ∃ q : Nat, modD (.int v2) (.int mn) = some (.int (q : Int)) ∧ K[q]? = some (nth K q) ∧ nth K q ∈ H := by
    obtain ⟨q, hq⟩ : ∃ q : Nat, v2 % mn = (q : Int) := ⟨(v2 % mn).toNat, (Int.toNat_of_nonneg (Int.emod_nonneg _ (by omega))).symm⟩
    have := Int.emod_lt_of_pos v2 hmp
    have hql : q < K.length := by omega
    refine ⟨q, by rw [e_mod _ _ hmp, hq], nth_get hql, ?_⟩
    have h9 := nth_mem hql
    have h10 : ∀ x ∈ K, x ∈ H := fun x hx => by
      rw [hK] at hx
      simpa using (List.mem_filter.mp hx).2
    exact h10 _ h9
  have main : ∀ r, M_law_taking [.lst (dS g), .lst (dI w), .lst (dS rk), .int wild, .lst (dI row)] = r → r = .ok (if wild ≤ v1 then eK (nth g q0, nth H q3, H) else eK (nth g q0, nth K q4, H)) := by
    intro r hr
    simp [M_law_taking, m_law_taking, r0, r1, r2, m0] at hr
    rw [e_rng _ (by omega)] at hr
    simp at hr
    rw [e_szB _ (by omega)] at hr
    simp at hr
    generalize hq : compL _ _ _ _ = r' at hr
    have z := comp_map hq (List.range g.length) (fun j => tgName 8 (.int (j : Int))) (fun j => decide (0 < (row[3 + j]?).getD 0)) (fun j => .str (nth g j)) (by simp [Function.comp_def]) (fun j hj => by
      have hj := List.mem_range.mp hj
      have hr := rowI (row := row) (i := 3 + j) (by omega)
      generalize (row[3 + j]?).getD 0 = v at hr
      have hix : ixD (.lst (dI row)) (.int (3 + (j : Int))) = some (.int v) := by
        rw [show (3 : Int) + (j : Int) = ((3 + j : Nat) : Int) from by omega, ix_L, List.getElem?_map, hr]; rfl
      exact ⟨_, rfl, by simp [hix], fun _ => by simp [nth_get hj]⟩)
    subst z
    rw [← hjs] at hr
    have e1 : (js.map fun j => D.str (nth g j)) = dS H0 := by rw [hH0]; simp [Function.comp_def]
    rw [e1] at hr
    have hz1 : szB 1 = true := rfl
    have hz3 : szB 3 = true := rfl
    have last : ∀ (H1 : List Str) (r : Res D), H1 = H → outD ((mSeq (mSet 7 (mFz (mComp (mSeqI (mVar 2) (tgName 9)) [9] (mTest (mOp inY (mVar 9) (mVar 6))) (mVar 9))))
            (mSeq
              (mIfS (mTest (mOp geX (mOp ixD (mVar 4) (mC (D.int 1))) (mVar 3)))
                (mRet
                  (mTupL
                    (mCons (mOp ixD (mVar 0) (mVar 5))
                      (mCons
                        (mOp ixD (mVar 6)
                          (mOp modD (mCB (f1 intD) (mCons (mOp ixD (mVar 4) (mC (D.int 2))) mNil))
                            (mCB (f1 lenD) (mCons (mVar 6) mNil))))
                        (mCons (mCB (f1 tupleD) (mCons (mVar 6) mNil)) mNil)))))
                mNx)
              (mRet
                (mTupL
                  (mCons (mOp ixD (mVar 0) (mVar 5))
                    (mCons
                      (mOp ixD (mVar 7)
                        (mOp modD (mCB (f1 intD) (mCons (mOp ixD (mVar 4) (mC (D.int 2))) mNil))
                          (mCB (f2 min2D)
                            (mCons (mCB (f1 lenD) (mCons (mVar 7) mNil)) (mCons (mOp ixD (mVar 1) (mVar 5)) mNil)))))
                      (mCons (mCB (f1 tupleD) (mCons (mVar 6) mNil)) mNil))))))) [.sh (.lst (dS g)), .sh (.lst (dI w)), .sh (.lst (dS rk)), .sh (.int wild), .sh (.lst (dI row)), .sh (.int (q0 : Int)), .sh (.lst (dS H1)), .un, .un, .un]) = r → r = .ok (if wild ≤ v1 then eK (nth g q0, nth H q3, H) else eK (nth g q0, nth K q4, H)) := by
      intro H1 r e hr
      subst e
      simp at hr
      rw [e_szB _ (by omega)] at hr
      simp at hr
      generalize hq : compL _ _ _ _ = r' at hr
      have z := comp_map hq rk (fun x => tgName 9 (.str x)) (fun x => decide (x ∈ H1)) .str (by simp [Function.comp_def]) (fun x hx => ⟨_, rfl, by simp, fun _ => by simp⟩)
      subst z
      rw [← hK] at hr
      simp [r1, r2] at hr
      subst hr
      by_cases hv : wild ≤ v1
      · simp [hv, g0, m3, g3, hz3, eK]
      · rw [e_min] at hmn
        simp only [Option.some.injEq, D.int.injEq] at hmn
        simp [hv, g0, hdq, r2, hmn, m4, g4, hz3, eK]
    rw [← hr]
    by_cases h0 : H0 = []
    · have hHe : H = [nth g q2] := by rw [hH, if_pos h0]
      refine last [nth g q2] _ hHe.symm ?_
      simp [h0, r2, m2, g2, hz1]
    · have hHe : H = H0 := by rw [hH, if_neg h0]
      refine last H0 _ hHe.symm ?_
      simp [h0]
  refine ⟨if wild ≤ v1 then (nth g q0, nth H q3, H) else (nth g q0, nth K q4, H), ?_, ?_⟩
  · rw [main _ rfl]
    split <;> rfl
  · split
    · exact ⟨n0, n3, Hf⟩
    · exact ⟨n0, n4, Hf⟩
end Pl

set_option autoImplicit true
set_option Elab.async false
set_option linter.all false
set_option maxRecDepth 100000
set_option maxHeartbeats 4000000
namespace Pl
open PySem Sm K49 L2
def rI (row : List Int) (i : Nat) : Nat := ((row[i]?).getD 0).toNat
theorem Dg.at {sizes row : List Int} (h : Dg sizes row) {i : Nat} {s : Nat} (hs : sizes[i]? = some (s : Int)) : row[i]? = some ((rI row i : Nat) : Int) ∧ rI row i < s := by
  have hi : i < row.length := by rw [h.len]; exact (List.getElem?_eq_some_iff.mp hs).1
  obtain ⟨t, h1, h2, h3⟩ := h.dig i row[i] (List.getElem?_eq_getElem hi)
  rw [hs] at h1
  cases h1
  have e : row[i]? = some row[i] := List.getElem?_eq_getElem hi
  have e2 : rI row i = row[i].toNat := by unfold rI; rw [e]; rfl
  rw [e2, e]
  refine ⟨?_, by omega⟩
  congr 1
  omega
/-! ### a row of statements, one by one -/
theorem seq_set {i : Nat} {m : En → Res D} {n : En → SR} {env : En} {Q : SR → Prop} {d : D} (h : m env = .ok d) (k : Q (n (env.set i (.sh d)))) : Q (mSeq (mSet i m) n env) := by
  have : mSeq (mSet i m) n env = n (env.set i (.sh d)) := by simp [h]
  rw [this]; exact k
theorem seq_setF {i : Nat} {m : En → Res (List D)} {n : En → SR} {env : En} {Q : SR → Prop} {d : List D} (h : m env = .ok d) (k : Q (n (env.set i (.ow (.lst d))))) : Q (mSeq (mSetF i m) n env) := by
  have : mSeq (mSetF i m) n env = n (env.set i (.ow (.lst d))) := by simp [h]
  rw [this]; exact k
theorem seq_ex {m n : En → SR} {env : En} {Q : SR → Prop} {P : En → Prop} (h : ∃ e, m env = .nx e ∧ P e) (k : ∀ e, P e → Q (n e)) : Q (mSeq m n env) := by
  obtain ⟨e, h1, h2⟩ := h
  have : mSeq m n env = n e := by simp [h1]
  rw [this]; exact k e h2
/-- a row of two ways that sets one slot -/
theorem seq_ifset {i : Nat} {c : En → Res Bool} {m : En → Res D} {n : En → SR} {env : En} {Q : SR → Prop} {b : Bool} {d0 : D} {P : D → Prop} (hc : c env = .ok b) (h0 : env[i]? = some (.sh d0)) (p0 : P d0) (h : b = true → ∃ d, m env = .ok d ∧ P d)
    (k : ∀ d, P d → Q (n (env.set i (.sh d)))) : Q (mSeq (mIfS c (mSet i m) mNx) n env) := by
  cases b with
  | false =>
    have : mSeq (mIfS c (mSet i m) mNx) n env = n env := by simp [hc]
    rw [this]
    have e : env.set i (.sh d0) = env := by
      apply List.ext_getElem?
      intro j
      rw [List.getElem?_set]
      by_cases q : i = j
      · subst q
        have := (List.getElem?_eq_some_iff.mp h0).1
        simp [this, h0]
        have := (List.getElem?_eq_some_iff.mp h0).2
        exact this.symm
      · simp [q]
    have := k d0 p0
    rwa [e] at this
  | true =>
    obtain ⟨d, h1, h2⟩ := h rfl
    have : mSeq (mIfS c (mSet i m) mNx) n env = n (env.set i (.sh d)) := by simp [hc, h1]
    rw [this]; exact k d h2
theorem e_addL (xs ys : List D) (h : xs.length + ys.length ≤ 10000) : addL (.lst xs) (.lst ys) = some (xs ++ ys) := by
  show (if szB (xs.length + ys.length) = true then some (xs ++ ys) else none) = _
  rw [e_szB _ (by omega)]; rfl
theorem e_mulL (xs : List D) (k : Nat) (h : xs.length * k ≤ 10000) (h2 : k ≤ 1000) : mulL (.lst xs) (.int (k : Int)) = some (List.replicate k xs).flatten := by
  show (if (cut64 (k : Int) && szB (xs.length * (k : Int).toNat)) = true then some (List.replicate (k : Int).toNat xs).flatten else none) = _
  have e1 : cut64 (k : Int) = true := decide_eq_true ⟨by omega, by omega⟩
  rw [e1, Int.toNat_natCast, e_szB _ (by omega)]; rfl
theorem repl_I (n : Nat) (xs : List Int) : (List.replicate n (dI xs)).flatten = dI (List.replicate n xs).flatten := by
  show _ = List.map D.int (List.replicate n xs).flatten
  rw [List.map_flatten, List.map_replicate]
/-- a table of whole numbers, asked by a digit -/
theorem tab_at (xs : List Int) (n : Nat) (P : Int → Prop) (h : ∀ x ∈ xs, P x) (hn : n < xs.length) : ∃ t, ixD (.lst (dI xs)) (.int (n : Int)) = some (.int t) ∧ P t :=
  ⟨xs[n], by rw [ix_L, List.getElem?_map, List.getElem?_eq_getElem hn]; rfl, h _ (List.getElem_mem hn)⟩
theorem row_sl (row : List Int) (a b : Nat) : slL (.lst (dI row)) (some (a : Int)) (some (b : Int)) = .ok (dI ((row.drop a).take (b - a))) := by
  rw [sl_midL, ← List.map_drop, ← List.map_take]

theorem tabN (xs : List Nat) (n : Nat) (hn : n < xs.length) : ixD (.lst (xs.map fun k : Nat => D.int (k : Int))) (.int (n : Int)) = some (.int ((xs[n] : Nat) : Int)) := by
  rw [ix_L, List.getElem?_map, List.getElem?_eq_getElem hn]; rfl
def tyL : List Nat := [0, 1, 0, 2, 1, 3, 0, 19]
theorem ty_le : ∀ z : Fin 8, tyL[z.val] ≤ 19 := by decide
/-! ### ties that are drawn -/
theorem lawties_ok {g rk : List Str} {wild : Int} {row : List Int} {z : Nat} (hn : g.Nodup) (hne : g ≠ []) (hl : g.length ≤ 12) (hok : ∀ x ∈ g, sOk x) (hrk : rk.Perm g) (hrow : row.length = 58) (hz : row[0]? = some (z : Int)) (hz8 : z < 8) :
    ∃ P : List (Str × Str), M_law_ties [.lst (dS g), .lst (dS rk), .int wild, .lst (dI row)] = .ok (.lst (P.map eP)) ∧ P.length ≤ 19 ∧ ∀ p ∈ P, p.1 ∈ g ∧ p.2 ∈ g ∧ p.1 ≠ p.2 := by
  have hok2 : ∀ x ∈ rk, sOk x := fun x hx => hok x (hrk.mem_iff.mp hx)
  have hty : ixD (.lst [.int 0, .int 1, .int 0, .int 2, .int 1, .int 3, .int 0, .int 19]) (.int (z : Int)) = some (.int ((tyL[z] : Nat) : Int)) := tabN tyL z hz8
  have hty19 := ty_le ⟨z, hz8⟩
  generalize htn : tyL[z] = tn at hty
  have hty19 : tn ≤ 19 := by rw [← htn]; exact hty19
  have hz8' : szB 8 = true := rfl
  have hz2 : szB 2 = true := rfl
  have hz0 : szB 0 = true := rfl
  simp [M_law_ties, m_law_ties, hz8', hz, hty, hz0]
  rw [e_rng _ (by omega)]
  simp
  generalize hr : loopM _ _ _ = r
  obtain ⟨e, rfl, P, c5, c6, c7, c8, h1, h2, rfl⟩ := loop_for hr (List.range tn) (fun i : Nat => .int (i : Int)) 5 rfl (fun k env => ∃ (P : List (Str × Str)) (c5 c6 c7 c8 : Cl), P.length ≤ k ∧ (∀ p ∈ P, p.1 ∈ g ∧ p.2 ∈ g ∧ p.1 ≠ p.2) ∧ env = [.sh (.lst (dS g)), .sh (.lst (dS rk)), .sh (.int wild), .sh (.lst (dI row)), .ow (.lst (P.map eP)), c5, c6, c7, c8, .un]) ⟨[], _, _, _, _, by simp, by simp, rfl⟩ (by
    rintro k env hk ⟨P, c5, c6, c7, c8, h1, h2, rfl⟩
    simp only [List.length_range] at hk
    have hm : mulD (.int 3) (.int (k : Int)) = some (.int (3 * (k : Int))) := e_mul 3 k 2 30 (by decide) (by omega) (by omega)
    have r1 := rowI (row := row) (i := 3 * k + 1) (by omega)
    have r2 := rowI (row := row) (i := 3 * k + 2) (by omega)
    have r3 := rowI (row := row) (i := 3 * k + 3) (by omega)
    generalize (row[3 * k + 1]?).getD 0 = v1 at r1
    generalize (row[3 * k + 2]?).getD 0 = v2 at r2
    generalize (row[3 * k + 3]?).getD 0 = v3 at r3
    have x1 : ixD (.lst (dI row)) (.int (3 * (k : Int) + 1)) = some (.int v1) := by
      rw [show 3 * (k : Int) + 1 = ((3 * k + 1 : Nat) : Int) from by omega, ix_L, List.getElem?_map, r1]; rfl
    have x2 : ixD (.lst (dI row)) (.int (3 * (k : Int) + 2)) = some (.int v2) := by
      rw [show 3 * (k : Int) + 2 = ((3 * k + 2 : Nat) : Int) from by omega, ix_L, List.getElem?_map, r2]; rfl
    have x3 : ixD (.lst (dI row)) (.int (3 * (k : Int) + 3)) = some (.int v3) := by
      rw [show 3 * (k : Int) + 3 = ((3 * k + 3 : Nat) : Int) from by omega, ix_L, List.getElem?_map, r3]; rfl
    by_cases hg1 : (1 : Int) < (g.length : Int)
    · obtain ⟨q1, m1, g1, n1⟩ := pickS v1 hne
      obtain ⟨O, hO⟩ : ∃ O, O = g.filter fun x => !decide (x = nth g q1) := ⟨_, rfl⟩
      have hOl := off_length hn n1
      have hOo : off (nth g q1) g = O := hO.symm
      rw [hOo] at hOl
      have hOne : O ≠ [] := List.length_pos_iff.mp (by omega)
      obtain ⟨q2, m2, g2, n2⟩ := pickS v2 hOne
      have n2' : nth O q2 ∈ g ∧ nth O q2 ≠ nth g q1 := by
        rw [← hOo] at n2 ⊢
        exact mem_off.mp n2
      have i1 := idxS hok2 (hrk.mem_iff.mpr n1)
      have i2 := idxS hok2 (hrk.mem_iff.mpr n2'.1)
      have body : ∀ r, (mSeq (mSet 6 (mOp ixD (mVar 0) (mOp modD (mCB (f1 intD) (mCons (mOp ixD (mVar 3) (mOp addD (mOp mulD (mC (.int 3)) (mVar 5)) (mC (.int 1)))) mNil)) (mCB (f1 lenD) (mCons (mVar 0) mNil)))))
  (mSeq (mSet 7 (mFz (mComp (mSeqI (mVar 0) (tgName 9)) [9] (mTest (mOp neD (mVar 9) (mVar 6))) (mVar 9))))
  (mSeq (mSet 8 (mOp ixD (mVar 7) (mOp modD (mCB (f1 intD) (mCons (mOp ixD (mVar 3) (mOp addD (mOp mulD (mC (.int 3)) (mVar 5)) (mC (.int 2)))) mNil)) (mCB (f1 lenD) (mCons (mVar 7) mNil)))))
  (mIfS (mAnd (mTest (mOp gtX (mMeth "list" indexD (mVar 1) (mCons (mVar 6) mNil)) (mMeth "list" indexD (mVar 1) (mCons (mVar 8) mNil)))) (mTest (mOp ltX (mOp ixD (mVar 3) (mOp addD (mOp mulD (mC (.int 3)) (mVar 5)) (mC (.int 3)))) (mVar 2)))) (mMut 4 (mCons (mTupL (mCons (mVar 8) (mCons (mVar 6) mNil))) mNil) appG) (mMut 4 (mCons (mTupL (mCons (mVar 6) (mCons (mVar 8) mNil))) mNil) appG))))) [.sh (.lst (dS g)), .sh (.lst (dS rk)), .sh (.int wild), .sh (.lst (dI row)), .ow (.lst (P.map eP)), .sh (.int (k : Int)), c6, c7, c8, .un] = r →
          ∃ p : Str × Str, (p = (nth O q2, nth g q1) ∨ p = (nth g q1, nth O q2)) ∧ r = .nx [.sh (.lst (dS g)), .sh (.lst (dS rk)), .sh (.int wild), .sh (.lst (dI row)), .ow (.lst ((P ++ [p]).map eP)), .sh (.int (k : Int)), .sh (.str (nth g q1)), .sh (.lst (dS O)), .sh (.str (nth O q2)), .un] := by
        intro r hr
        simp [hm, x1, m1, g1] at hr
        rw [e_szB _ (by omega)] at hr
        simp at hr
        generalize hq : compL _ _ _ _ = r' at hr
        have z := comp_map hq g (fun x => tgName 9 (.str x)) (fun x => !decide (x = nth g q1)) .str (by simp [Function.comp_def]) (fun x hx => ⟨_, rfl, by simp [ne_ss (hok x hx) (hok _ n1)], fun _ => by simp⟩)
        subst z
        rw [← hO] at hr
        simp [hm, x2, m2, g2, i1, i2, x3] at hr
        by_cases hc : ix (nth O q2) rk < ix (nth g q1) rk
        · by_cases hw : v3 < wild
          · refine ⟨_, .inl rfl, ?_⟩
            simp [hc, hw, hz2] at hr
            rw [e_app _ _ (by simp; omega)] at hr
            rw [← hr]
            simp [eP]
          · refine ⟨_, .inr rfl, ?_⟩
            simp [hc, hw, hz2] at hr
            rw [e_app _ _ (by simp; omega)] at hr
            rw [← hr]
            simp [eP]
        · refine ⟨_, .inr rfl, ?_⟩
          simp [hc, hz2] at hr
          rw [e_app _ _ (by simp; omega)] at hr
          rw [← hr]
          simp [eP]
      obtain ⟨p, hp, hB⟩ := body _ rfl
      by_cases hgo : z < 7 ∨ v3 < 4
      · refine ⟨[.sh (.lst (dS g)), .sh (.lst (dS rk)), .sh (.int wild), .sh (.lst (dI row)), .ow (.lst ((P ++ [p]).map eP)), .sh (.int (k : Int)), .sh (.str (nth g q1)), .sh (.lst (dS O)), .sh (.str (nth O q2)), .un], ?_, P ++ [p], _, _, _, _, by simp; omega, fun x hx => ?_, rfl⟩
        · rw [List.getElem_range]
          have hc : (mAnd (mTest (mOp gtX (mCB (f1 lenD) (mCons (mVar 0) mNil)) (mC (.int 1)))) (mOr (mTest (mOp ltX (mOp ixD (mVar 3) (mC (.int 0))) (mC (.int 7)))) (mTest (mOp ltX (mOp ixD (mVar 3) (mOp addD (mOp mulD (mC (.int 3)) (mVar 5)) (mC (.int 3)))) (mC (.int 4)))))) [.sh (.lst (dS g)), .sh (.lst (dS rk)), .sh (.int wild), .sh (.lst (dI row)), .ow (.lst (P.map eP)), .sh (.int (k : Int)), c6, c7, c8, .un] = .ok true := by
            have hg2 : 1 < g.length := by omega
            by_cases q : z < 7
            · have q' : (z : Int) < 7 := by omega
              simp [hg1, hg2, hz, hm, x3, q, q']
            · have q2 : v3 < 4 := by omega
              have q' : ¬ (z : Int) < 7 := by omega
              simp [hg1, hg2, hz, hm, x3, q, q', q2]
          have hs : ∀ (c : En → Res Bool) (m n : En → SR) (env : En), c env = .ok true → mIfS c m n env = m env := fun c m n env h => by simp [h]
          exact (hs _ _ _ _ hc).trans hB
        · rcases List.mem_append.mp hx with h | h
          · exact h2 x h
          · have := List.mem_singleton.mp h
            subst this
            rcases hp with rfl | rfl
            · exact ⟨n2'.1, n1, n2'.2⟩
            · exact ⟨n1, n2'.1, fun e => n2'.2 e.symm⟩
      · refine ⟨[.sh (.lst (dS g)), .sh (.lst (dS rk)), .sh (.int wild), .sh (.lst (dI row)), .ow (.lst (P.map eP)), .sh (.int (k : Int)), c6, c7, c8, .un], ?_, P, _, _, _, _, by omega, h2, rfl⟩
        have q1 : ¬ (z : Int) < 7 := by omega
        have q2 : ¬ v3 < 4 := by omega
        simp [hg1, hz, hm, x3, q1, q2]
    · refine ⟨[.sh (.lst (dS g)), .sh (.lst (dS rk)), .sh (.int wild), .sh (.lst (dI row)), .ow (.lst (P.map eP)), .sh (.int (k : Int)), c6, c7, c8, .un], ?_, P, _, _, _, _, by omega, h2, rfl⟩
      simp [hg1])
  rw [List.length_range] at h1
  refine ⟨P, ?_, by omega, fun a b h => h2 (a, b) h⟩
  simp
end Pl

set_option autoImplicit true
set_option Elab.async false
set_option linter.all false
set_option maxRecDepth 100000
set_option maxHeartbeats 4000000
namespace Pl
open PySem Sm K49 L2
theorem q_eq {Q : SR → Prop} {r s : SR} (h : r = s) (k : Q s) : Q r := h ▸ k
def hSz : List Int := [120, 12, 16, 6, 8]
def rSz : List Int := List.replicate 12 12 ++ List.replicate 12 8 ++ List.replicate 12 12
def tSz : List Int := (([12, 8, 12] : List Int) ++ List.replicate 12 3) ++ (([12, 8, 12] : List Int) ++ List.replicate 12 3)
def iSz : List Int := [8] ++ (List.replicate 19 ([12, 11, 8] : List Int)).flatten
def mA : List Nat := [3, 4, 2, 5, 3, 4, 6, 1, 5, 4, 3, 6]
def mB' : List Nat := [7, 12, 9, 8, 6, 12, 10, 7, 11, 8, 9, 12]
def wL : List Nat := [8, 8, 8, 7, 7, 6, 4, 1]
def cA : List Nat := [3, 4, 2, 5, 6, 0, 8, 4, 5, 1, 3, 7, 10, 6, 12, 9]
def cB : List Nat := [20, 60, 30, 15, 45, 13, 60, 25, 17, 50, 24, 36, 15, 59, 40, 21]
theorem eRow (env : En) : (mFz (mOp addL (mFz (mOp addL (mFz (mOp mulL (mFz (mLstL (mCons (mC (.int 12)) mNil))) (mC (.int 12)))) (mFz (mOp mulL (mFz (mLstL (mCons (mC (.int 8)) mNil))) (mC (.int 12)))))) (mFz (mOp mulL (mFz (mLstL (mCons (mC (.int 12)) mNil))) (mC (.int 12)))))) env = .ok (.lst (dI rSz)) := rfl
theorem eTs (env : En) : (mFz (mOp mulL (mFz (mOp addL (mFz (mLstL (mCons (mC (.int 12)) (mCons (mC (.int 8)) (mCons (mC (.int 12)) mNil))))) (mFz (mOp mulL (mFz (mLstL (mCons (mC (.int 3)) mNil))) (mC (.int 12)))))) (mC (.int 2)))) env = .ok (.lst (dI tSz)) := rfl
theorem eIs (env : En) : (mFz (mOp addL (mFz (mLstL (mCons (mC (.int 8)) mNil))) (mFz (mOp mulL (mFz (mLstL (mCons (mC (.int 12)) (mCons (mC (.int 11)) (mCons (mC (.int 8)) mNil))))) (mC (.int 19)))))) env = .ok (.lst (dI iSz)) := rfl
theorem pos_h : ∀ s ∈ hSz, 0 < s ∧ s.natAbs < 2 ^ 64 := by decide
theorem pos_r : ∀ s ∈ rSz, 0 < s ∧ s.natAbs < 2 ^ 64 := by decide
theorem pos_t : ∀ s ∈ tSz, 0 < s ∧ s.natAbs < 2 ^ 64 := by decide
theorem pos_i : ∀ s ∈ iSz, 0 < s ∧ s.natAbs < 2 ^ 64 := by decide
theorem mA_ok : ∀ i : Fin 12, 1 ≤ mA[i.val] ∧ mA[i.val] ≤ 6 := by decide
theorem mB_ok : ∀ i : Fin 12, 1 ≤ mB'[i.val] ∧ mB'[i.val] ≤ 12 := by decide
theorem cA_ok : ∀ i : Fin 16, cA[i.val] ≤ 12 := by decide
theorem cB_ok : ∀ i : Fin 16, cB[i.val] ≤ 60 := by decide
theorem minN (a b : Nat) : min2D (.int (a : Int)) (.int (b : Int)) = some (.int ((min a b : Nat) : Int)) := by
  rw [e_min]
  by_cases h : b < a
  · rw [if_pos (by omega), Nat.min_eq_right (by omega)]
  · rw [if_neg (by omega), Nat.min_eq_left (by omega)]
theorem lst_ne (xs : List Int) (env : En) : True := trivial
/-- what was seen, as drawn -/
theorem lawseen_ok (ns : List Int) (U R : Nat) (hU : U = 6 ∨ U = 12) (hR : R = 10 ∨ R = 60) : ∃ s : Se, s.Nm ∧ s.tk.length ≤ 60 ∧ s.ti.length ≤ 19 ∧ M_law_seen [.scr ns, .int 3, .int (U : Int), .int (R : Int)] = .ok (.lst [.lst (dS s.g), .lst (s.tk.map eK), .lst (dI s.dp), .lst (s.ti.map eP)]) := by
  obtain ⟨ch, hch⟩ := cell_ok ns 3 (by omega)
  obtain ⟨cr, hcr⟩ := cell_ok ns 4 (by omega)
  obtain ⟨ci, hci⟩ := cell_ok ns 5 (by omega)
  obtain ⟨hd, hhd, dgh⟩ := digits_ok ch hSz pos_h (by decide)
  obtain ⟨rw', hrw, dgr⟩ := digits_ok cr rSz pos_r (by decide)
  obtain ⟨ri, hri, dgi⟩ := digits_ok ci iSz pos_i (by decide)
  obtain ⟨h0, h0l⟩ := dgh.at (i := 0) (s := 120) rfl
  obtain ⟨h1, h1l⟩ := dgh.at (i := 1) (s := 12) rfl
  obtain ⟨h2, h2l⟩ := dgh.at (i := 2) (s := 16) rfl
  obtain ⟨h3, h3l⟩ := dgh.at (i := 3) (s := 6) rfl
  obtain ⟨h4, h4l⟩ := dgh.at (i := 4) (s := 8) rfl
  obtain ⟨i0, i0l⟩ := dgi.at (i := 0) (s := 8) rfl
  have hrl : rw'.length = 36 := dgr.len
  have hil : ri.length = 58 := dgi.len
  generalize rI hd 0 = a0 at h0 h0l
  generalize rI hd 1 = a1 at h1 h1l
  generalize rI hd 2 = a2 at h2 h2l
  generalize rI hd 3 = a3 at h3 h3l
  generalize rI hd 4 = a4 at h4 h4l
  generalize rI ri 0 = z0 at i0 i0l
  suffices main : ∀ r, M_law_seen [.scr ns, .int 3, .int (U : Int), .int (R : Int)] = r → ∃ s : Se, s.Nm ∧ s.tk.length ≤ 60 ∧ s.ti.length ≤ 19 ∧ r = .ok (.lst [.lst (dS s.g), .lst (s.tk.map eK), .lst (dI s.dp), .lst (s.ti.map eP)]) by
    exact main _ rfl
  intro r hr
  subst hr
  unfold M_law_seen
  rw [e_runF]
  simp only [List.length_cons, List.length_nil, if_true, e_envOf, List.map_cons, List.map_nil]
  rw [show ([Cl.sh (.scr ns), Cl.sh (.int 3), Cl.sh (.int (U : Int)), Cl.sh (.int (R : Int))] ++ List.replicate (19 - (0 + 1 + 1 + 1 + 1)) Cl.un) = [.sh (.scr ns), .sh (.int 3), .sh (.int (U : Int)), .sh (.int (R : Int)), .un, .un, .un, .un, .un, .un, .un, .un, .un, .un, .un, .un, .un, .un, .un] from rfl]
  unfold m_law_seen
  generalize hQ : (fun x : SR => ∃ s : Se, s.Nm ∧ s.tk.length ≤ 60 ∧ s.ti.length ≤ 19 ∧ outF x = .ok (.lst [.lst (dS s.g), .lst (s.tk.map eK), .lst (dI s.dp), .lst (s.ti.map eP)])) = Q
  rw [show (∃ s : Se, s.Nm ∧ s.tk.length ≤ 60 ∧ s.ti.length ≤ 19 ∧ outF _ = .ok (.lst [.lst (dS s.g), .lst (s.tk.map eK), .lst (dI s.dp), .lst (s.ti.map eP)])) = Q _ from by rw [← hQ]]
  have hch : M_law_cell [.scr ns, .int 3] = .ok (.int ch) := hch
  have hcr : M_law_cell [.scr ns, .int 4] = .ok (.int cr) := hcr
  have hci : M_law_cell [.scr ns, .int 5] = .ok (.int ci) := hci
  have hhd : M_law_digits [.int ch, .lst [.int 120, .int 12, .int 16, .int 6, .int 8]] = .ok (.lst (dI hd)) := hhd
  have hz5 : szB 5 = true := rfl
  have hz8 : szB 8 = true := rfl
  have hz12 : szB 12 = true := rfl
  have hz16 : szB 16 = true := rfl
  have hz0 : szB 0 = true := rfl
  have hz4 : szB 4 = true := rfl
  refine seq_set (d := .lst (dI hd)) (by simp [hch, hz5, hhd]) ?_
  refine seq_set (d := .lst (dI rw')) (by
    rw [e_mFzO, e_mCallF, e_mCons, e_mCons, e_mCall, eRow]
    simp [hcr, hrw]) ?_
  have hmA : ixD (.lst [.int 3, .int 4, .int 2, .int 5, .int 3, .int 4, .int 6, .int 1, .int 5, .int 4, .int 3, .int 6]) (.int (a1 : Int)) = some (.int ((mA[a1] : Nat) : Int)) := tabN mA a1 h1l
  have hmB : ixD (.lst [.int 7, .int 12, .int 9, .int 8, .int 6, .int 12, .int 10, .int 7, .int 11, .int 8, .int 9, .int 12]) (.int (a1 : Int)) = some (.int ((mB'[a1] : Nat) : Int)) := tabN mB' a1 h1l
  have oA := mA_ok ⟨a1, h1l⟩
  have oB := mB_ok ⟨a1, h1l⟩
  generalize mA[a1] = tA at hmA oA
  generalize mB'[a1] = tB at hmB oB
  refine seq_set (d := .int ((min U tA : Nat) : Int)) (by simp [h1, hz12, hmA]; split <;> omega) ?_
  refine seq_ifset (i := 6) (b := decide ((6 : Int) < (U : Int))) (d0 := .int ((min U tA : Nat) : Int)) (P := fun d => ∃ m : Nat, 1 ≤ m ∧ m ≤ 12 ∧ d = .int (m : Int)) (by simp) rfl ⟨_, by omega, by omega, rfl⟩ (fun _ => ⟨.int ((min U tB : Nat) : Int), by simp [h1, hz12, hmB]; split <;> omega, _, by omega, by omega, rfl⟩) ?_
  rintro d ⟨m, m1, m2, rfl⟩
  simp only [List.set_cons_succ, List.set_cons_zero]
  obtain ⟨g, hg, gn, gl, gok⟩ := lawnames_ok h0l m2
  refine seq_set (d := .lst (dS g)) (by simp [h0, hg]) ?_
  obtain ⟨p, hp, hperm⟩ := order_ok rw' m (by omega) (by omega)
  have hne : g ≠ [] := List.length_pos_iff.mp (by omega)
  have hpl : p.length = m := by rw [hperm.length_eq]; simp
  obtain ⟨rk, hrk⟩ : ∃ rk, rk = p.map (nth g) := ⟨_, rfl⟩
  have rkp : rk.Perm g := by
    have := hperm.map (nth g)
    rwa [← gl, nth_range, ← hrk] at this
  refine seq_set (d := .lst (dS rk)) (by
    simp [hp]
    rw [e_szB _ (by omega)]
    simp
    generalize hq : compL _ _ _ _ = r
    have z := comp_all hq p (fun j => tgName 13 (.int (j : Int))) (fun j => .str (nth g j)) (by simp [Function.comp_def]) (fun j hj => by
      have hjl : j < g.length := by
        have := hperm.mem_iff.mp hj
        rw [gl]
        simpa using this
      exact ⟨_, rfl, rfl, by simp [nth_get hjl]⟩)
    subst z
    rw [hrk]
    simp [Function.comp_def]) ?_
  refine seq_set (d := .lst (dI (g.map fun _ => 1 + (if a3 = 5 then 1 else 0)))) (by
    simp
    rw [e_szB _ (by omega)]
    simp
    generalize hq : compL _ _ _ _ = r
    have z := comp_all hq g (fun x => tgName 17 (.str x)) (fun _ => .int (1 + (if a3 = 5 then 1 else 0))) (by simp [Function.comp_def]) (fun x hx => ⟨_, rfl, rfl, by
      by_cases q : a3 = 5
      · subst q; simp [h3]
      · have q2 : ¬ (a3 : Int) = 5 := by omega
        simp [h3, q, q2]⟩)
    subst z
    simp [Function.comp_def]) ?_
  simp only [List.set_cons_succ, List.set_cons_zero]
  refine seq_ex (P := fun e => ∃ (w : List Int) (c15 : Cl), w.length = g.length ∧ (∀ d ∈ w, 1 ≤ d) ∧ e = [.sh (.scr ns), .sh (.int 3), .sh (.int (U : Int)), .sh (.int (R : Int)), .sh (.lst (dI hd)), .sh (.lst (dI rw')), .sh (.int (m : Int)), .sh (.lst (dS g)), .sh (.lst (dS rk)), .sh (.lst (dI w)), .un, .un, .un, .un, .un, c15, .un, .un, .un]) ?_ ?_
  · by_cases hc : (3 : Int) ≤ (a3 : Int) ∧ ¬ (a3 : Int) = 5
    · obtain ⟨hc1, hc2⟩ := hc
      have hc3 : 3 ≤ a3 := by omega
      have hc4 : ¬ a3 = 5 := by omega
      have hmp : (0 : Int) < (m : Int) := by omega
      obtain ⟨rg, hrg⟩ : ∃ rg, rg = ((rw'.drop 24).take (36 - 24)).map fun v => 1 + v % (m : Int) := ⟨_, rfl⟩
      have rgl : rg.length = 12 := by rw [hrg]; simp; omega
      have rgp : ∀ d ∈ rg, 1 ≤ d := fun d hd => by
        rw [hrg] at hd
        obtain ⟨v, _, rfl⟩ := List.mem_map.mp hd
        have := Int.emod_nonneg v (b := (m : Int)) (by omega)
        omega
      have hsl : slL (.lst (dI rw')) (some 24) (some 36) = .ok (dI ((rw'.drop 24).take (36 - 24))) := row_sl rw' 24 36
      have st15 : (mFz (mComp (mSeqI (mFz (mSl slL (mVar 5) (mOSome (mC (.int 24))) (mOSome (mC (.int 36))))) (tgName 18)) [18] (fun _ => .ok true) (mOp addD (mC (.int 1)) (mOp modD (mCB (f1 intD) (mCons (mVar 18) mNil)) (mVar 6))))) [.sh (.scr ns), .sh (.int 3), .sh (.int (U : Int)), .sh (.int (R : Int)), .sh (.lst (dI hd)), .sh (.lst (dI rw')), .sh (.int (m : Int)), .sh (.lst (dS g)), .sh (.lst (dS rk)), .sh (.lst (dI (g.map fun _ => 1 + (if a3 = 5 then 1 else 0)))), .un, .un, .un, .un, .un, .un, .un, .un, .un] = .ok (.lst (dI rg)) := by
        simp only [e_mFz, e_mComp, e_mSeqI, e_mSl, e_mVar, e_mOSome, e_mC, e_asI, rb_ok, List.getElem?_cons_succ, List.getElem?_cons_zero, clD_sh, hsl, e_itL]
        rw [e_szB _ (by simp; omega)]
        simp only [if_true, e_wipe1, e_wipe0, List.set_cons_succ, List.set_cons_zero]
        generalize hq : compL _ _ _ _ = r
        have z := comp_all hq ((rw'.drop 24).take (36 - 24)) (fun v => tgName 18 (.int v)) (fun v => .int (1 + v % (m : Int))) (by rw [List.map_map]; rfl) (fun v hv => ⟨_, rfl, rfl, by
          simp
          rw [e_mod _ _ hmp]
          simp⟩)
        subst z
        rw [hrg]
        simp [Function.comp_def]
      obtain ⟨f, hf⟩ : ∃ f : Nat → Int, f = fun k : Nat => ((([1, 1, 2, (rg[k]?).getD 1, 3, (rg[k]?).getD 1, (rg[k]?).getD 1, 10 ^ 20 + (k : Int)] : List Int))[rI rw' (12 + k)]?).getD 1 := ⟨_, rfl⟩
      have st9 : (mFz (mComp (mRng1 (mVar 6) (tgName 13)) [13] (fun _ => .ok true) (mOp ixD (mFz (mLstL (mCons (mC (.int 1)) (mCons (mC (.int 1)) (mCons (mC (.int 2)) (mCons (mOp ixD (mVar 15) (mVar 13)) (mCons (mC (.int 3)) (mCons (mOp ixD (mVar 15) (mVar 13)) (mCons (mOp ixD (mVar 15) (mVar 13)) (mCons (mOp addD (mOp powD (mC (.int 10)) (mC (.int 20))) (mVar 13)) mNil)))))))))) (mOp ixD (mVar 5) (mOp addD (mC (.int 12)) (mVar 13)))))) [.sh (.scr ns), .sh (.int 3), .sh (.int (U : Int)), .sh (.int (R : Int)), .sh (.lst (dI hd)), .sh (.lst (dI rw')), .sh (.int (m : Int)), .sh (.lst (dS g)), .sh (.lst (dS rk)), .sh (.lst (dI (g.map fun _ => 1 + (if a3 = 5 then 1 else 0)))), .un, .un, .un, .un, .un, .sh (.lst (dI rg)), .un, .un, .un] = .ok (.lst (dI ((List.range m).map f))) := by
        simp only [e_mFz, e_mComp, e_mRng1, e_mVar, rb_ok, List.getElem?_cons_succ, List.getElem?_cons_zero, clD_sh]
        rw [e_rng _ (by omega)]
        simp only [rb_ok]
        rw [e_szB _ (by simp; omega)]
        simp only [if_true, e_wipe1, e_wipe0, List.set_cons_succ, List.set_cons_zero]
        generalize hq : compL _ _ _ _ = r
        have z := comp_all hq (List.range m) (fun j => tgName 13 (.int (j : Int))) (fun j => .int (f j)) (by rw [List.map_map]; rfl) (fun j hj => ⟨_, rfl, rfl, by
          have hj := List.mem_range.mp hj
          have hrgj : rg[j]? = some ((rg[j]?).getD 1) := by rw [List.getElem?_eq_getElem (by omega)]; rfl
          obtain ⟨e1, e2⟩ := dgr.at (i := 12 + j) (s := 8) (by
            have : ∀ q : Fin 12, rSz[12 + q.val]? = some (8 : Int) := by decide
            exact this ⟨j, by omega⟩)
          have hix : ixD (.lst (dI rw')) (.int (12 + (j : Int))) = some (.int ((rI rw' (12 + j) : Nat) : Int)) := by
            rw [show (12 : Int) + (j : Int) = ((12 + j : Nat) : Int) from by omega, ix_L, List.getElem?_map, e1]; rfl
          have hpw : powD (.int 10) (.int 20) = some (.int (10 ^ 20)) := rfl
          have hfj : f j = ((([1, 1, 2, (rg[j]?).getD 1, 3, (rg[j]?).getD 1, (rg[j]?).getD 1, 10 ^ 20 + (j : Int)] : List Int))[rI rw' (12 + j)]?).getD 1 := by rw [hf]
          generalize rI rw' (12 + j) = q at hix hfj e2
          generalize (rg[j]?).getD 1 = v at hrgj hfj
          have hL : ixD (.lst [.int 1, .int 1, .int 2, .int v, .int 3, .int v, .int v, .int (10 ^ 20 + (j : Int))]) (.int (q : Int)) = some (.int (f j)) := by
            have : (.lst [.int 1, .int 1, .int 2, .int v, .int 3, .int v, .int v, .int (10 ^ 20 + (j : Int))] : D) = .lst (dI [1, 1, 2, v, 3, v, v, 10 ^ 20 + (j : Int)]) := rfl
            rw [this, ix_L, List.getElem?_map, hfj, List.getElem?_eq_getElem (by simpa using e2)]
            rfl
          have hrgd : ixD (.lst (dI rg)) (.int (j : Int)) = some (.int v) := by rw [ix_L, List.getElem?_map, hrgj]; rfl
          simp only [e_mOp, e_mFz, e_mLstL, e_mCons, e_mNil, e_mC, e_mVar, rb_ok, List.set_cons_succ, List.set_cons_zero, List.getElem?_cons_succ, List.getElem?_cons_zero, clD_sh, hrgd, e_ofO_some, hpw, e_add, List.length_cons, List.length_nil, Nat.zero_add, Nat.reduceAdd, hz8, if_true, hix, hL]⟩)
        subst z
        simp [Function.comp_def]
      refine ⟨_, ?_, (List.range m).map f, .sh (.lst (dI rg)), by simp [gl], fun d hd => ?_, rfl⟩
      · have hc : ∀ (c : En → Res Bool) (m n : En → SR) (env : En), c env = .ok true → mIfS c m n env = m env := fun c m n env h => by simp [h]
        refine (hc _ _ _ _ (by simp [h3, hc1, hc2, hc3, hc4])).trans ?_
        rw [e_mSeq, e_mSet, e_mS, st15]
        simp only [resS_ok, sThen_nx, List.set_cons_succ, List.set_cons_zero]
        rw [e_mSet, e_mS, st9]
        rfl
      · obtain ⟨k, hk, rfl⟩ := List.mem_map.mp hd
        have hk := List.mem_range.mp hk
        have : 1 ≤ (rg[k]?).getD 1 := by
          rw [List.getElem?_eq_getElem (by omega)]
          exact rgp _ (List.getElem_mem (by omega))
        rw [hf]
        simp only
        generalize (rg[k]?).getD 1 = v at this
        cases hq : ([1, 1, 2, v, 3, v, v, 10 ^ 20 + (k : Int)] : List Int)[rI rw' (12 + k)]? with
        | none => exact Int.le_refl _
        | some x =>
          have := List.mem_of_getElem? hq
          simp only [List.mem_cons, List.not_mem_nil, or_false] at this
          simp only [Option.getD_some]
          omega
    · refine ⟨_, ?_, g.map fun _ => 1 + (if a3 = 5 then 1 else 0), .un, by simp, fun d hd => ?_, rfl⟩
      · have hc' : ∀ (c : En → Res Bool) (m n : En → SR) (env : En), c env = .ok false → mIfS c m n env = n env := fun c m n env h => by simp [h]
        refine (hc' _ _ _ _ ?_).trans rfl
        by_cases q : (3 : Int) ≤ (a3 : Int)
        · have q2 : (a3 : Int) = 5 := Classical.byContradiction fun z => hc ⟨q, z⟩
          have q3 : a3 = 5 := by omega
          subst q3
          simp [h3]
        · have q3 : ¬ 3 ≤ a3 := by omega
          simp [h3, q, q3]
      · obtain ⟨x, _, rfl⟩ := List.mem_map.mp hd
        split <;> omega
  rintro e ⟨w, c15, wl, wp, rfl⟩
  have hwL : ixD (.lst [.int 8, .int 8, .int 8, .int 7, .int 7, .int 6, .int 4, .int 1]) (.int (a4 : Int)) = some (.int ((wL[a4] : Nat) : Int)) := tabN wL a4 h4l
  generalize wL[a4] = wild at hwL
  refine seq_set (d := .int (wild : Int)) (by simp [h4, hz8, hwL]) ?_
  refine seq_setF (d := []) (by simp [hz0]) ?_
  have hcA : ixD (.lst [.int 3, .int 4, .int 2, .int 5, .int 6, .int 0, .int 8, .int 4, .int 5, .int 1, .int 3, .int 7, .int 10, .int 6, .int 12, .int 9]) (.int (a2 : Int)) = some (.int ((cA[a2] : Nat) : Int)) := tabN cA a2 h2l
  have hcB : ixD (.lst [.int 20, .int 60, .int 30, .int 15, .int 45, .int 13, .int 60, .int 25, .int 17, .int 50, .int 24, .int 36, .int 15, .int 59, .int 40, .int 21]) (.int (a2 : Int)) = some (.int ((cB[a2] : Nat) : Int)) := tabN cB a2 h2l
  have oA := cA_ok ⟨a2, h2l⟩
  have oB := cB_ok ⟨a2, h2l⟩
  generalize cA[a2] = tA2 at hcA oA
  generalize cB[a2] = tB2 at hcB oB
  refine seq_set (d := .int ((min R tA2 : Nat) : Int)) (by simp [h2, hz16, hcA]; split <;> omega) ?_
  refine seq_ifset (i := 12) (b := decide ((12 : Int) < (R : Int))) (d0 := .int ((min R tA2 : Nat) : Int)) (P := fun d => ∃ c : Nat, c ≤ 60 ∧ d = .int (c : Int)) (by simp) rfl ⟨_, by omega, rfl⟩ (fun _ => ⟨.int (tB2 : Int), by simp [h2, hz16, hcB], _, by omega, rfl⟩) ?_
  rintro d ⟨cn, cnl, rfl⟩
  simp only [List.set_cons_succ, List.set_cons_zero]
  refine seq_ex (P := fun e => ∃ (K : List Tk) (c13 c16 : Cl), K.length = cn ∧ (∀ t ∈ K, t.1 ∈ g ∧ t.2.1 ∈ t.2.2 ∧ t.2.2 = g.filter fun x => decide (x ∈ t.2.2)) ∧ e = [.sh (.scr ns), .sh (.int 3), .sh (.int (U : Int)), .sh (.int (R : Int)), .sh (.lst (dI hd)), .sh (.lst (dI rw')), .sh (.int (m : Int)), .sh (.lst (dS g)), .sh (.lst (dS rk)), .sh (.lst (dI w)), .sh (.int (wild : Int)), .ow (.lst (K.map eK)), .sh (.int (cn : Int)), c13, .un, c15, c16, .un, .un]) ?_ ?_
  · simp only [e_mFor, e_mS, e_mRng1, e_mVar, List.getElem?_cons_succ, List.getElem?_cons_zero, clD_sh, rb_ok]
    rw [e_rng _ (by omega)]
    simp only [rb_ok, resS_ok]
    generalize hr : loopM _ _ _ = r
    obtain ⟨e, rfl, K, c13, c16, k1, k2, rfl⟩ := loop_for hr (List.range cn) (fun i : Nat => .int (i : Int)) 13 (by rw [List.map_map]; rfl) (fun k env => ∃ (K : List Tk) (c13 c16 : Cl), K.length = k ∧ (∀ t ∈ K, t.1 ∈ g ∧ t.2.1 ∈ t.2.2 ∧ t.2.2 = g.filter fun x => decide (x ∈ t.2.2)) ∧ env = [.sh (.scr ns), .sh (.int 3), .sh (.int (U : Int)), .sh (.int (R : Int)), .sh (.lst (dI hd)), .sh (.lst (dI rw')), .sh (.int (m : Int)), .sh (.lst (dS g)), .sh (.lst (dS rk)), .sh (.lst (dI w)), .sh (.int (wild : Int)), .ow (.lst (K.map eK)), .sh (.int (cn : Int)), c13, .un, c15, c16, .un, .un]) ⟨[], _, _, rfl, by simp, rfl⟩ (by
      rintro k env hk ⟨K, c13, c16, k1, k2, rfl⟩
      simp only [List.length_range] at hk
      obtain ⟨ck, hck⟩ := cell_ok ns (6 + k % 50) (by omega)
      obtain ⟨rk16, hr16, dg16⟩ := digits_ok ck tSz pos_t (by decide)
      have l16 : rk16.length = 30 := dg16.len
      have hck' : M_law_cell [.scr ns, .int (6 + (k : Int) % 50)] = .ok (.int ck) := hck
      obtain ⟨t, ht, t1, t2, t3⟩ := lawtaking_ok (wild := (wild : Int)) (row := rk16.drop (k / 50 * 15)) gn hne (by omega) (fun x hx => (gok x hx).1) rkp wl wp (by
        have : k / 50 ≤ 1 := by omega
        rw [List.length_drop]; omega)
      have hsl : slL (.lst (dI rk16)) (some ((k : Int) / 50 * 15)) none = .ok (dI (rk16.drop (k / 50 * 15))) := by
        have e : (k : Int) / 50 * 15 = ((k / 50 * 15 : Nat) : Int) := by omega
        rw [e, sl_dropL, ← List.map_drop]
      have hmul : mulD (.int ((k : Int) / 50)) (.int 15) = some (.int ((k : Int) / 50 * 15)) := e_mul _ _ 30 10 (by omega) (by decide) (by omega)
      have hmod : modD (.int (k : Int)) (.int 50) = some (.int ((k : Int) % 50)) := e_mod _ _ (by decide)
      have hdiv : fdivD (.int (k : Int)) (.int 50) = some (.int ((k : Int) / 50)) := e_div _ _ (by decide) (by decide)
      refine ⟨[.sh (.scr ns), .sh (.int 3), .sh (.int (U : Int)), .sh (.int (R : Int)), .sh (.lst (dI hd)), .sh (.lst (dI rw')), .sh (.int (m : Int)), .sh (.lst (dS g)), .sh (.lst (dS rk)), .sh (.lst (dI w)), .sh (.int (wild : Int)), .ow (.lst ((K ++ [t]).map eK)), .sh (.int (cn : Int)), .sh (.int (k : Int)), .un, c15, .sh (.lst (dI rk16)), .un, .un], ?_, K ++ [t], _, _, by simp [k1], fun x hx => ?_, rfl⟩
      · rw [List.getElem_range]
        have s16 : (mFzO (mCallF M_law_digits [] (mCons (mCall M_law_cell [] (mCons (mVar 0) (mCons (mOp addD (mOp addD (mVar 1) (mC (.int 3))) (mOp modD (mCB (f1 intD) (mCons (mVar 13) mNil)) (mC (.int 50)))) mNil))) (mCons (mFz (mOp mulL (mFz (mOp addL (mFz (mLstL (mCons (mC (.int 12)) (mCons (mC (.int 8)) (mCons (mC (.int 12)) mNil))))) (mFz (mOp mulL (mFz (mLstL (mCons (mC (.int 3)) mNil))) (mC (.int 12)))))) (mC (.int 2)))) mNil)))) [.sh (.scr ns), .sh (.int 3), .sh (.int (U : Int)), .sh (.int (R : Int)), .sh (.lst (dI hd)), .sh (.lst (dI rw')), .sh (.int (m : Int)), .sh (.lst (dS g)), .sh (.lst (dS rk)), .sh (.lst (dI w)), .sh (.int (wild : Int)), .ow (.lst (K.map eK)), .sh (.int (cn : Int)), .sh (.int (k : Int)), .un, c15, c16, .un, .un] = .ok (.lst (dI rk16)) := by
          rw [e_mFzO, e_mCallF, e_mCons, e_mCons, e_mCall, eTs]
          simp [hmod, hck', hr16]
        simp only [List.set_cons_succ, List.set_cons_zero]
        rw [e_mSeq, e_mSet, e_mS, s16]
        simp only [resS_ok, sThen_nx, List.set_cons_succ, List.set_cons_zero]
        generalize rk16.drop (k / 50 * 15) = D16 at ht hsl
        simp [hdiv, hmul, hsl, ht]
        rw [e_app _ _ (by simp; omega)]
        simp
      · rcases List.mem_append.mp hx with h | h
        · exact k2 x h
        · have := List.mem_singleton.mp h
          subst this
          exact ⟨t1, t2, t3⟩)
    rw [List.length_range] at k1
    exact ⟨_, rfl, K, _, _, k1, k2, rfl⟩
  rintro e ⟨K, c13, c16, k1, k2, rfl⟩
  obtain ⟨P, hP, pl, pp⟩ := lawties_ok (wild := (wild : Int)) gn hne (by omega) (fun x hx => (gok x hx).1) rkp hil i0 i0l
  refine seq_set (d := .lst (P.map eP)) (by
    have s14 : (mFzO (mCallF M_law_digits [] (mCons (mCall M_law_cell [] (mCons (mVar 0) (mCons (mOp addD (mVar 1) (mC (.int 2))) mNil))) (mCons (mFz (mOp addL (mFz (mLstL (mCons (mC (.int 8)) mNil))) (mFz (mOp mulL (mFz (mLstL (mCons (mC (.int 12)) (mCons (mC (.int 11)) (mCons (mC (.int 8)) mNil))))) (mC (.int 19)))))) mNil)))) [.sh (.scr ns), .sh (.int 3), .sh (.int (U : Int)), .sh (.int (R : Int)), .sh (.lst (dI hd)), .sh (.lst (dI rw')), .sh (.int (m : Int)), .sh (.lst (dS g)), .sh (.lst (dS rk)), .sh (.lst (dI w)), .sh (.int (wild : Int)), .ow (.lst (K.map eK)), .sh (.int (cn : Int)), c13, .un, c15, c16, .un, .un] = .ok (.lst (dI ri)) := by
      rw [e_mFzO, e_mCallF, e_mCons, e_mCons, e_mCall, eIs]
      simp [hci, hri]
    rw [e_mFzO, e_mCallF, e_mCons, e_mCons, e_mCons, e_mCons, s14]
    simp [hP]) ?_
  rw [← hQ]
  refine ⟨⟨g, K, w, P⟩, ⟨⟨gn, hne, by simp only; omega, fun x hx => (gok x hx).1, wl, wp, by simp only; omega, k2, by simp only; omega, pp⟩, fun x hx => (gok x hx).2⟩, by simp only; omega, pl, ?_⟩
  simp [hz4]
end Pl

set_option autoImplicit true
set_option Elab.async false
set_option linter.all false
set_option maxRecDepth 100000
set_option maxHeartbeats 4000000
namespace Pl
open PySem Sm K49 L2
theorem seq_skip {c : En → Res Bool} {a n : En → SR} {env : En} {Q : SR → Prop} (h : c env = .ok false) (k : Q (n env)) : Q (mSeq (mIfS c a mNx) n env) := by
  have : mSeq (mIfS c a mNx) n env = n env := by simp [h]
  rw [this]; exact k
theorem seq_go {c : En → Res Bool} {a n : En → SR} {env : En} {Q : SR → Prop} (h : c env = .ok true) (k : Q (mSeq a n env)) : Q (mSeq (mIfS c a mNx) n env) := by
  have : mSeq (mIfS c a mNx) n env = mSeq a n env := by simp [h]
  rw [this]; exact k
def gSz : List Int := [12, 12, 3, 2]
def nSz : List Int := List.replicate 13 12 ++ [11]
def lSz : List Int := List.replicate 240 12
theorem eNs (env : En) : (mFz (mOp addL (mFz (mOp mulL (mFz (mLstL (mCons (mC (.int 12)) mNil))) (mC (.int 13)))) (mFz (mLstL (mCons (mC (.int 11)) mNil))))) env = .ok (.lst (dI nSz)) := rfl
theorem eLs (env : En) : (mFz (mOp mulL (mFz (mLstL (mCons (mC (.int 12)) mNil))) (mC (.int 240)))) env = .ok (.lst (dI lSz)) := rfl
theorem pos_g : ∀ s ∈ gSz, 0 < s ∧ s.natAbs < 2 ^ 64 := by decide
theorem pos_n : ∀ s ∈ nSz, 0 < s ∧ s.natAbs < 2 ^ 64 := by decide
theorem pos_l : ∀ s ∈ lSz, 0 < s ∧ s.natAbs < 2 ^ 64 := fun s hs => by
  have := (List.mem_replicate.mp hs).2
  subst this
  decide
theorem last12 (T : List (List Str)) : slL (.lst (dT T)) (some (-12)) none = .ok (dT (T.drop (T.length - 12))) := by
  show Res.ok (cutD (dT T) (some (-((12 : Nat) : Int))) none) = _
  rw [cut_last _ _ (by decide), List.length_map, ← List.map_drop]
theorem cut_neg1 (xs : List D) : cutD xs none (some (-1)) = xs.dropLast := cut_neg xs
theorem dl_map {α : Type} (f : α → D) (xs : List α) : (xs.map f).dropLast = xs.dropLast.map f := by simp
theorem dl_mem {α : Type} {x : α} {xs : List α} (h : x ∈ xs.dropLast) : x ∈ xs := by
  rw [List.dropLast_eq_take] at h
  exact List.mem_of_mem_take h
/-- told less -/
theorem fewer_nm {s : Se} (hs : s.Nm) {K : List Tk} {P : List (Str × Str)} (hK : ∀ t ∈ K, t ∈ s.tk) (hKl : K.length ≤ 100) (hP : ∀ p ∈ P, p ∈ s.ti) (hPl : P.length ≤ 100) : (⟨s.g, K, s.dp, P⟩ : Se).Nm :=
  ⟨⟨hs.nd, hs.ne, hs.gl, hs.nm, hs.dl, hs.dpos, hKl, fun t ht => hs.tg t (hK t ht), hPl, fun p hp => hs.ig p (hP p hp)⟩, hs.isnm⟩
/-- nothing that is not there -/
theorem none_new {L M : List Str} (hsub : ∀ x ∈ L, x ∈ M) (hl : L.length ≤ 1000) {m mM : En → Res D} {env : En} {i : Nat} (hm : m env = .ok (.tup (dS L))) (hi : i < env.length) (hM : ∀ d : Cl, mM (env.set i d) = .ok (.tup (dS M))) :
    (mTest (mOp gtX (mCB (f1 lenD) (mCons (mFz (mComp (mSeqI m (tgName i)) [i] (mTest (mOp niY (mVar i) mM)) (mVar i))) mNil)) (mC (.int 0)))) env = .ok false := by
  simp [hm]
  rw [e_szB _ (by omega)]
  simp
  generalize hq : compL _ _ _ _ = r
  have z := comp_map hq L (fun x => tgName i (.str x)) (fun x => !decide (x ∈ M)) .str (by simp [Function.comp_def]) (fun y hy => ⟨_, rfl, by
    have : (List.set env i Cl.un).set i (.sh (.str y)) = env.set i (.sh (.str y)) := by simp
    rw [this]
    simp [hM, hi], fun _ => by simp [hi]⟩)
  subst z
  have hf : (L.filter fun x => !decide (x ∈ M)) = [] := List.filter_eq_nil_iff.mpr fun x hx => by simp [hsub x hx]
  rw [hf]
  simp
theorem judge_left {s : Se} (hs : s.Ok) {T : List (List Str)} (hT : ∀ l ∈ T, Lot s.g l) (hL : ∃ l ∈ T, l.Perm (leftF s)) : T.any (stuckF s) = !decide (leftF s = []) := by
  obtain ⟨l, hl, hp⟩ := hL
  by_cases h : leftF s = []
  · have : T.any (stuckF s) = false := by
      rw [List.any_eq_false]
      intro x hx q
      obtain ⟨n1, n2⟩ := stuck_sub hs (hT x hx) q
      obtain ⟨y, hy⟩ := List.exists_mem_of_ne_nil x n1
      have := n2 y hy
      rw [h] at this
      cases this
    rw [this, decide_eq_true h]; rfl
  · have : T.any (stuckF s) = true := by
      refine List.any_eq_true.mpr ⟨l, hl, ?_⟩
      unfold stuckF
      rw [Bool.and_eq_true]
      have hlen : l.length = (leftF s).length := hp.length_eq
      refine ⟨decide_eq_true (by rw [hlen]; exact List.length_pos_iff.mpr h), List.all_eq_true.mpr fun c hc => ?_⟩
      rw [(held_mono s).same (M := leftF s) (fun x => hp.mem_iff)]
      exact (res_ok hs).2 c (hp.mem_iff.mp hc)
    rw [this, decide_eq_false h]; rfl
theorem isN_ord (s : Se) : isN (ordD s) .non = some (.bl (!decide (leftF s = []))) := by
  unfold ordD
  by_cases h : leftF s = []
  · rw [if_pos h, decide_eq_true h]; rfl
  · rw [if_neg h, decide_eq_false h]; rfl
theorem isN_P (s : Se) : isN (POb s) .non = some (.bl false) := rfl
theorem law_ok (ns : List Int) : K49.M_law [.scr ns] = .ok (.bl true) := by
  obtain ⟨c0, hc0⟩ := cell_ok ns 0 (by omega)
  obtain ⟨c1, hc1⟩ := cell_ok ns 1 (by omega)
  obtain ⟨c2, hc2⟩ := cell_ok ns 2 (by omega)
  have hc0 : M_law_cell [.scr ns, .int 0] = .ok (.int c0) := hc0
  have hc1 : M_law_cell [.scr ns, .int 1] = .ok (.int c1) := hc1
  have hc2 : M_law_cell [.scr ns, .int 2] = .ok (.int c2) := hc2
  obtain ⟨hd, hhd, dgh⟩ := digits_ok c0 gSz pos_g (by decide)
  obtain ⟨tr, htr, dgt⟩ := digits_ok c1 nSz pos_n (by decide)
  obtain ⟨lr, hlr, dgl⟩ := digits_ok c2 lSz pos_l (by decide)
  have hhd : M_law_digits [.int c0, .lst [.int 12, .int 12, .int 3, .int 2]] = .ok (.lst (dI hd)) := hhd
  have trl : tr.length = 14 := dgt.len
  have lrl : lr.length = 240 := by rw [dgl.len]; exact List.length_replicate
  obtain ⟨h0, h0l⟩ := dgh.at (i := 0) (s := 12) rfl
  obtain ⟨h1, h1l⟩ := dgh.at (i := 1) (s := 12) rfl
  obtain ⟨h2, h2l⟩ := dgh.at (i := 2) (s := 3) rfl
  obtain ⟨h3, h3l⟩ := dgh.at (i := 3) (s := 2) rfl
  generalize rI hd 0 = a0 at h0 h0l
  generalize rI hd 1 = a1 at h1 h1l
  generalize rI hd 2 = a2 at h2 h2l
  generalize rI hd 3 = a3 at h3 h3l
  have t12 := rowI (row := tr) (i := 12) (by omega)
  have t13 := rowI (row := tr) (i := 13) (by omega)
  generalize (tr[12]?).getD 0 = v12 at t12
  generalize (tr[13]?).getD 0 = v13 at t13
  have x12 : ixD (.lst (dI tr)) (.int 12) = some (.int v12) := by
    show atI (dI tr) ((12 : Nat) : Int) = _
    rw [atI_natE, List.getElem?_map, t12]; rfl
  have x13 : ixD (.lst (dI tr)) (.int 13) = some (.int v13) := by
    show atI (dI tr) ((13 : Nat) : Int) = _
    rw [atI_natE, List.getElem?_map, t13]; rfl
  obtain ⟨s, hs, kl, il, hseen⟩ := lawseen_ok ns (if a0 = 0 then 12 else 6) (if a1 = 0 then 60 else 10) (by split <;> simp) (by split <;> simp)
  have hok := hs.toOk
  have hgl := hok.gl
  obtain ⟨T, hT, Tl, Tlot, Tleft⟩ := lots_ok hok lrl
  have hmade := made_ok hs
  have hpeel := peel_ok hok
  have hright := right_ok hok
  have hleft := left_ok hok (row := tr) (by omega)
  have hjud := judged_ok hok Tlot
  have hjl := judge_left hok Tlot Tleft
  have lok : ∀ x ∈ leftF s, sOk x := fun x hx => hok.nm x (left_sub hok x hx)
  have hz2 : szB 2 = true := rfl
  have hz4 : szB 4 = true := rfl
  have hz1 : szB 1 = true := rfl
  have T12 : ∀ l ∈ T.drop (T.length - 12), Lot s.g l := fun l hl => Tlot l (List.mem_of_mem_drop hl)
  unfold M_law
  rw [e_runD]
  simp only [List.length_cons, List.length_nil, if_true, e_envOf, List.map_cons, List.map_nil]
  rw [show ([Cl.sh (.scr ns)] ++ List.replicate (19 - (0 + 1)) Cl.un) = [.sh (.scr ns), .un, .un, .un, .un, .un, .un, .un, .un, .un, .un, .un, .un, .un, .un, .un, .un, .un, .un] from rfl]
  unfold m_law
  generalize hQ : (fun x : SR => outD x = .ok (.bl true)) = Q
  rw [show (outD _ = .ok (.bl true)) = Q _ from by rw [← hQ]]
  refine seq_set (d := .lst (dI hd)) (by simp [hc0, hz4, hhd]) ?_
  refine seq_set (d := eS s) (by
    have q1 : ixD (.lst [.int 6, .int 12]) (.int (if (a0 : Int) = 0 then 1 else 0)) = some (.int (((if a0 = 0 then 12 else 6 : Nat)) : Int)) := by
      by_cases q : a0 = 0
      · subst q; rfl
      · have : ¬ (a0 : Int) = 0 := by omega
        rw [if_neg q, if_neg this]; rfl
    have q2 : ixD (.lst [.int 10, .int 60]) (.int (if (a1 : Int) = 0 then 1 else 0)) = some (.int (((if a1 = 0 then 60 else 10 : Nat)) : Int)) := by
      by_cases q : a1 = 0
      · subst q; rfl
      · have : ¬ (a1 : Int) = 0 := by omega
        rw [if_neg q, if_neg this]; rfl
    generalize (if a0 = 0 then 12 else 6 : Nat) = U at q1 hseen
    generalize (if a1 = 0 then 60 else 10 : Nat) = V at q2 hseen
    have e0 : eqD (.int (a0 : Int)) (.int 0) = some (.bl (decide ((a0 : Int) = 0))) := eq_ii _ _
    have e1 : eqD (.int (a1 : Int)) (.int 0) = some (.bl (decide ((a1 : Int) = 0))) := eq_ii _ _
    have g0 : ixD (.lst (dI hd)) (.int 0) = some (.int (a0 : Int)) := by rw [ix_L0, List.getElem?_map, h0]; rfl
    have g1 : ixD (.lst (dI hd)) (.int 1) = some (.int (a1 : Int)) := by rw [ix_L1, List.getElem?_map, h1]; rfl
    have b0 : intD (.bl (decide ((a0 : Int) = 0))) = .ok (.int (if (a0 : Int) = 0 then 1 else 0)) := by
      rw [e_intB]; by_cases q : (a0 : Int) = 0 <;> simp [q]
    have b1 : intD (.bl (decide ((a1 : Int) = 0))) = .ok (.int (if (a1 : Int) = 0 then 1 else 0)) := by
      rw [e_intB]; by_cases q : (a1 : Int) = 0 <;> simp [q]
    simp only [List.set_cons_succ, List.set_cons_zero, e_mFzO, e_mCallF, e_mCons, e_mNil, e_mVar, e_mC, e_mOp, e_mFz, e_mLstL, e_mCB, e_f1, rb_ok, List.getElem?_cons_succ, List.getElem?_cons_zero, clD_sh, g0, g1, e0, e1, e_ofO_some, b0, b1, List.length_cons, List.length_nil, Nat.zero_add, Nat.reduceAdd, hz2, if_true, q1, q2, List.append_nil, hseen, obd_l]
    rfl) ?_
  simp only [List.set_cons_succ, List.set_cons_zero]
  refine seq_set (d := SOb s) (by simp [h2, hmade]) ?_
  refine seq_set (d := POb s) (by simp [hpeel]) ?_
  refine seq_skip (by simp [hright]) ?_
  refine seq_set (d := .lst (dI tr)) (by
    rw [e_mFzO, e_mCallF, e_mCons, e_mCons, e_mCall, eNs]
    simp [hc1, htr]) ?_
  refine seq_skip (by simp [hleft, ne_tS lok lok]) ?_
  refine seq_set (d := .lst (dT T)) (by
    have s1 : ∀ env : En, env[0]? = some (.sh (.scr ns)) → (mFzO (mCallF M_law_digits [] (mCons (mCall M_law_cell [] (mCons (mVar 0) (mCons (mC (.int 2)) mNil))) (mCons (mFz (mOp mulL (mFz (mLstL (mCons (mC (.int 12)) mNil))) (mC (.int 240)))) mNil)))) env = .ok (.lst (dI lr)) := fun env he => by
      rw [e_mFzO, e_mCallF, e_mCons, e_mCons, e_mCall, eLs]
      simp [he, hc2, hlr]
    rw [e_mFzO, e_mCallF, e_mCons, e_mCons, s1 _ rfl]
    simp [hT]) ?_
  refine seq_set (d := .lst [.bl true, .bl (!decide (leftF s = []))]) (by
    have g3 : ixD (.lst (dI hd)) (.int 3) = some (.int (a3 : Int)) := by rw [ix_L3, List.getElem?_map, h3]; rfl
    have e3 : eqD (.int (a3 : Int)) (.int 1) = some (.bl (decide ((a3 : Int) = 1))) := eq_ii _ _
    simp only [List.set_cons_succ, List.set_cons_zero, e_mFzO, e_mCallF, e_mCons, e_mNil, e_mVar, e_mC, e_mOp, e_mUn, rb_ok, List.getElem?_cons_succ, List.getElem?_cons_zero, clD_sh, g3, e3, e_ofO_some, fp_l, List.append_nil, hjud, hjl, obd_l]) ?_
  refine seq_skip (by simp [isN_ord]) ?_
  simp only [List.set_cons_succ, List.set_cons_zero]
  have hneg : negD (.int 1) = some (.int (-1)) := rfl
  have g2 : ixD (.lst (dI hd)) (.int 2) = some (.int (a2 : Int)) := by rw [ix_L2, List.getElem?_map, h2]; rfl
  have g3 : ixD (.lst (dI hd)) (.int 3) = some (.int (a3 : Int)) := by rw [ix_L3, List.getElem?_map, h3]; rfl
  have e30 : eqD (.int (a3 : Int)) (.int 0) = some (.bl (decide ((a3 : Int) = 0))) := eq_ii _ _
  have e31 : eqD (.int (a3 : Int)) (.int 1) = some (.bl (decide ((a3 : Int) = 1))) := eq_ii _ _
  refine seq_ex (P := fun e => ∃ c8 c12 c13 : Cl, e = [.sh (.scr ns), .sh (.lst (dI hd)), .sh (eS s), .sh (SOb s), .sh (POb s), .sh (.lst (dI tr)), .sh (.lst (dT T)), .sh (.lst [.bl true, .bl (!decide (leftF s = []))]), c8, .un, .un, .un, c12, c13, .un, .un, .un, .un, .un]) ?_ ?_
  · have hit : (mFz (mLstL (mCons (mOp ixD (mVar 2) (mC (.int 3))) (mCons (mSl slX (mOp ixD (mVar 2) (mC (.int 3))) mONone (mOSome (mUn negD (mC (.int 1))))) mNil)))) [.sh (.scr ns), .sh (.lst (dI hd)), .sh (eS s), .sh (SOb s), .sh (POb s), .sh (.lst (dI tr)), .sh (.lst (dT T)), .sh (.lst [.bl true, .bl (!decide (leftF s = []))]), .un, .un, .un, .un, .un, .un, .un, .un, .un, .un, .un] = .ok (.lst ([s.ti, s.ti.dropLast].map fun P => .lst (P.map eP))) := by
      simp only [e_mFz, e_mLstL, e_mCons, e_mNil, e_mOp, e_mVar, e_mC, e_mSl, e_mONone, e_mOSome, e_mUn, rb_ok, List.getElem?_cons_succ, List.getElem?_cons_zero, clD_sh, eS3, e_ofO_some, hneg, e_asI, e_slXL, cut_neg1, dl_map, List.length_cons, List.length_nil, Nat.zero_add, Nat.reduceAdd, hz2, if_true, List.map_cons, List.map_nil]
    rw [e_mFor, e_mS, e_mSeqI, hit]
    simp only [rb_ok, e_itL, resS_ok]
    generalize hr : loopM _ _ _ = r
    obtain ⟨e, rfl, c8, c12, c13, rfl⟩ := loop_for hr [s.ti, s.ti.dropLast] (fun P => .lst (P.map eP)) 8 (by rw [List.map_map]; rfl) (fun k env => ∃ c8 c12 c13 : Cl, env = [.sh (.scr ns), .sh (.lst (dI hd)), .sh (eS s), .sh (SOb s), .sh (POb s), .sh (.lst (dI tr)), .sh (.lst (dT T)), .sh (.lst [.bl true, .bl (!decide (leftF s = []))]), c8, .un, .un, .un, c12, c13, .un, .un, .un, .un, .un]) ⟨_, _, _, rfl⟩ (by
      rintro k env hk ⟨c8, c12, c13, rfl⟩
      have hm : [s.ti, s.ti.dropLast][k] ∈ [s.ti, s.ti.dropLast] := List.getElem_mem hk
      generalize [s.ti, s.ti.dropLast][k] = P at hm
      have hP : ∀ p ∈ P, p ∈ s.ti := fun p hp => by
        simp only [List.mem_cons, List.not_mem_nil, or_false] at hm
        rcases hm with rfl | rfl
        · exact hp
        · exact dl_mem hp
      have hPl : P.length ≤ 100 := by
        simp only [List.mem_cons, List.not_mem_nil, or_false] at hm
        rcases hm with rfl | rfl
        · exact hok.il
        · rw [List.length_dropLast]; have := hok.il; omega
      obtain ⟨u, hu⟩ : ∃ u : Se, u = ⟨s.g, s.tk.dropLast, s.dp, P⟩ := ⟨_, rfl⟩
      have un : u.Nm := by rw [hu]; exact fewer_nm hs (fun t => dl_mem) (by rw [List.length_dropLast]; have := hok.tl; omega) hP hPl
      have ug : u.g = s.g := by rw [hu]
      have ud : u.dp = s.dp := by rw [hu]
      have ue : (.lst [.lst (dS s.g), .lst (s.tk.dropLast.map eK), .lst (dI s.dp), .lst (P.map eP)] : D) = eS u := by rw [hu]; rfl
      have usub := left_more un.toOk hok ug ud (fun t ht => by rw [hu] at ht; exact dl_mem ht) (fun p hp => by rw [hu] at hp; exact hP p hp)
      have uT : ∀ l ∈ T.drop (T.length - 12), Lot u.g l := fun l hl => by rw [ug]; exact T12 l hl
      have uask := asked_ok un uT (decide ((a3 : Int) = 0))
      refine ⟨[.sh (.scr ns), .sh (.lst (dI hd)), .sh (eS s), .sh (SOb s), .sh (POb s), .sh (.lst (dI tr)), .sh (.lst (dT T)), .sh (.lst [.bl true, .bl (!decide (leftF s = []))]), .sh (.lst (P.map eP)), .un, .un, .un, .sh (eS u), .sh (POb u), .un, .un, .un, .un, .un], ?_, _, _, _, rfl⟩
      simp only [List.set_cons_succ, List.set_cons_zero]
      have st12 : ∀ c12 c13 : Cl, (mFz (mLstL (mCons (mOp ixD (mVar 2) (mC (.int 0))) (mCons (mSl slX (mOp ixD (mVar 2) (mC (.int 1))) mONone (mOSome (mUn negD (mC (.int 1))))) (mCons (mOp ixD (mVar 2) (mC (.int 2))) (mCons (mVar 8) mNil)))))) [.sh (.scr ns), .sh (.lst (dI hd)), .sh (eS s), .sh (SOb s), .sh (POb s), .sh (.lst (dI tr)), .sh (.lst (dT T)), .sh (.lst [.bl true, .bl (!decide (leftF s = []))]), .sh (.lst (P.map eP)), .un, .un, .un, c12, c13, .un, .un, .un, .un, .un] = .ok (eS u) := fun c12 c13 => by
        simp only [e_mFz, e_mLstL, e_mCons, e_mNil, e_mOp, e_mVar, e_mC, e_mSl, e_mONone, e_mOSome, e_mUn, rb_ok, List.getElem?_cons_succ, List.getElem?_cons_zero, clD_sh, eS0, eS1, eS2, e_ofO_some, hneg, e_asI, e_slXL, cut_neg1, dl_map, List.length_cons, List.length_nil, Nat.zero_add, Nat.reduceAdd, hz4, if_true, ue]
      refine seq_set (Q := fun r => r = SR.nx [.sh (.scr ns), .sh (.lst (dI hd)), .sh (eS s), .sh (SOb s), .sh (POb s), .sh (.lst (dI tr)), .sh (.lst (dT T)), .sh (.lst [.bl true, .bl (!decide (leftF s = []))]), .sh (.lst (P.map eP)), .un, .un, .un, .sh (eS u), .sh (POb u), .un, .un, .un, .un, .un]) (d := eS u) (st12 _ _) ?_
      simp only [List.set_cons_succ, List.set_cons_zero]
      refine seq_set (Q := fun r => r = SR.nx [.sh (.scr ns), .sh (.lst (dI hd)), .sh (eS s), .sh (SOb s), .sh (POb s), .sh (.lst (dI tr)), .sh (.lst (dT T)), .sh (.lst [.bl true, .bl (!decide (leftF s = []))]), .sh (.lst (P.map eP)), .un, .un, .un, .sh (eS u), .sh (POb u), .un, .un, .un, .un, .un]) (d := POb u) (by
        have hmod : modD (.int ((a2 : Int) + 1)) (.int 3) = some (.int (((a2 : Int) + 1) % 3)) := e_mod _ _ (by decide)
        simp only [e_mCall, e_mCons, e_mNil, e_mFzO, e_mCallF, e_mOp, e_mCB, e_mVar, e_mC, e_mFz, e_mSl, e_mONone, e_mOSome, e_mUn, rb_ok, List.getElem?_cons_succ, List.getElem?_cons_zero, clD_sh, g2, g3, e_add, e_ofO_some, e_f1, e_int, hmod, List.append_nil, made_ok un, OSb_d, e30, hneg, e_asI]
        have hneg12 : negD (.int 12) = some (.int (-12)) := rfl
        simp only [hneg12, e_ofO_some, rb_ok, e_asI, last12, uask]) ?_
      simp only [List.set_cons_succ, List.set_cons_zero]
      have hul := (left_lot un.toOk).len un.gl
      have nn := none_new (L := leftF u) (M := leftF s) usub (by omega) (i := 18) (m := mUn (fldD ["Peel"] "left") (mVar 13)) (mM := mUn (fldD ["Peel"] "left") (mVar 4)) (env := [.sh (.scr ns), .sh (.lst (dI hd)), .sh (eS s), .sh (SOb s), .sh (POb s), .sh (.lst (dI tr)), .sh (.lst (dT T)), .sh (.lst [.bl true, .bl (!decide (leftF s = []))]), .sh (.lst (P.map eP)), .un, .un, .un, .sh (eS u), .sh (POb u), .un, .un, .un, .un, .un]) (by simp) (by simp) (fun d => by simp)
      have hs2 : ∀ (c : En → Res Bool) (a : En → SR) (env : En), c env = .ok false → mIfS c a mNx env = .nx env := fun c a env h => by simp [h]
      refine hs2 _ _ _ ?_
      rw [e_mOr, nn]
      simp [isN_P])
    exact ⟨_, rfl, _, _, _, rfl⟩
  rintro e ⟨c8, c12, c13, rfl⟩
  obtain ⟨q1, m1, p1, n1⟩ := pickS v12 hok.ne
  have i12 : intD (.int v12) = .ok (.int v12) := rfl
  have i13 : intD (.int v13) = .ok (.int v13) := rfl
  refine seq_set (d := .str (nth s.g q1)) (by
    have pg : ixD (.lst (dS s.g)) (.int (q1 : Int)) = some (.str (nth s.g q1)) := by rw [ix_L, List.getElem?_map, p1]; rfl
    simp only [e_mOp, e_mVar, e_mC, e_mCB, e_mCons, e_mNil, rb_ok, List.getElem?_cons_succ, List.getElem?_cons_zero, clD_sh, eS0, e_ofO_some, x12, e_f1, i12, e_lenL, List.length_map, m1, pg]) ?_
  simp only [List.set_cons_succ, List.set_cons_zero]
  obtain ⟨O, hO⟩ : ∃ O, O = off (nth s.g q1) s.g := ⟨_, rfl⟩
  refine seq_set (d := .lst (dS O)) (by
    simp only [e_mFz, e_mComp, e_mSeqI, e_mOp, e_mVar, e_mC, rb_ok, List.getElem?_cons_succ, List.getElem?_cons_zero, clD_sh, eS0, e_ofO_some, e_itL]
    rw [e_szB _ (by simp; omega)]
    simp only [if_true, e_wipe1, e_wipe0, List.set_cons_succ, List.set_cons_zero]
    generalize hq : compL _ _ _ _ = r
    have z := comp_map hq s.g (fun x => tgName 17 (.str x)) (fun x => !decide (x = nth s.g q1)) .str (by rw [List.map_map]; rfl) (fun x hx => ⟨_, rfl, by simp [ne_ss (hok.nm x hx) (hok.nm _ n1)], fun _ => by simp⟩)
    subst z
    rw [hO]
    rfl) ?_
  simp only [List.set_cons_succ, List.set_cons_zero]
  refine seq_ex (P := fun e => ∃ c14 c15 c16 : Cl, e = [.sh (.scr ns), .sh (.lst (dI hd)), .sh (eS s), .sh (SOb s), .sh (POb s), .sh (.lst (dI tr)), .sh (.lst (dT T)), .sh (.lst [.bl true, .bl (!decide (leftF s = []))]), c8, .sh (.str (nth s.g q1)), .sh (.lst (dS O)), .un, c12, c13, c14, c15, c16, .un, .un]) ?_ ?_
  · have hcond : ∀ (a : En → SR) (env : En), env[10]? = some (.sh (.lst (dS O))) → mIfS (mTest (mOp gtX (mCB (f1 lenD) (mCons (mVar 10) mNil)) (mC (.int 0)))) a mNx env = if decide ((0 : Int) < (O.length : Int)) then a env else .nx env := fun a env he => by
      simp [he]
    rw [hcond _ _ rfl]
    by_cases hOl : (0 : Int) < (O.length : Int)
    · rw [if_pos (decide_eq_true hOl)]
      have hOne : O ≠ [] := List.length_pos_iff.mp (by omega)
      obtain ⟨q2, m2, p2, n2⟩ := pickS v13 hOne
      have n2' : nth O q2 ∈ s.g ∧ nth O q2 ≠ nth s.g q1 := by
        have : nth O q2 ∈ off (nth s.g q1) s.g := by rw [← hO]; exact n2
        exact mem_off.mp this
      obtain ⟨u, hu⟩ : ∃ u : Se, u = ⟨s.g, s.tk, s.dp, s.ti ++ [(nth s.g q1, nth O q2)]⟩ := ⟨_, rfl⟩
      have un : u.Nm := by
        rw [hu]
        refine ⟨⟨hok.nd, hok.ne, hok.gl, hok.nm, hok.dl, hok.dpos, hok.tl, hok.tg, by simp; omega, fun p hp => ?_⟩, hs.isnm⟩
        rcases List.mem_append.mp hp with h | h
        · exact hok.ig p h
        · have := List.mem_singleton.mp h
          subst this
          exact ⟨n1, n2'.1, fun e => n2'.2 e.symm⟩
      have ug : u.g = s.g := by rw [hu]
      have ud : u.dp = s.dp := by rw [hu]
      have ut : u.tk = s.tk := by rw [hu]
      have ui : u.ti = s.ti ++ [(nth s.g q1, nth O q2)] := by rw [hu]
      have ue : (.lst [.lst (dS s.g), .lst (s.tk.map eK), .lst (dI s.dp), .lst (s.ti.map eP ++ [.tup [.str (nth s.g q1), .str (nth O q2)]])] : D) = eS u := by
        rw [hu]
        unfold eS
        simp only [List.map_append, List.map_cons, List.map_nil]
        rfl
      have usub := left_more hok un.toOk ug.symm ud.symm (fun t ht => by rw [ut]; exact ht) (fun p hp => by rw [ui]; exact List.mem_append_left _ hp)
      have uT : ∀ l ∈ T.drop (T.length - 12), Lot u.g l := fun l hl => by rw [ug]; exact T12 l hl
      have uask := asked_ok un uT (decide ((a3 : Int) = 1))
      have htied := tied_ok hs un ug ut ud ui (frz_tk hok (.inr rfl)) (frz_ti un.toOk (.inr rfl))
      refine ⟨[.sh (.scr ns), .sh (.lst (dI hd)), .sh (eS s), .sh (SOb s), .sh (POb s), .sh (.lst (dI tr)), .sh (.lst (dT T)), .sh (.lst [.bl true, .bl (!decide (leftF s = []))]), c8, .sh (.str (nth s.g q1)), .sh (.lst (dS O)), .un, c12, c13, .sh (.str (nth O q2)), .sh (eS u), .sh (POb u), .un, .un], ?_, _, _, _, rfl⟩
      generalize hE : [Cl.sh (.scr ns), .sh (.lst (dI hd)), .sh (eS s), .sh (SOb s), .sh (POb s), .sh (.lst (dI tr)), .sh (.lst (dT T)), .sh (.lst [.bl true, .bl (!decide (leftF s = []))]), c8, .sh (.str (nth s.g q1)), .sh (.lst (dS O)), .un, c12, c13, .sh (.str (nth O q2)), .sh (eS u), .sh (POb u), .un, .un] = E
      refine seq_set (Q := fun r => r = SR.nx E) (d := .str (nth O q2)) (by
        have pg : ixD (.lst (dS O)) (.int (q2 : Int)) = some (.str (nth O q2)) := by rw [ix_L, List.getElem?_map, p2]; rfl
        simp only [e_mOp, e_mVar, e_mC, e_mCB, e_mCons, e_mNil, rb_ok, List.getElem?_cons_succ, List.getElem?_cons_zero, clD_sh, e_ofO_some, x13, e_f1, i13, e_lenL, List.length_map, m2, pg]) ?_
      simp only [List.set_cons_succ, List.set_cons_zero]
      have htl := hok.il
      refine seq_set (Q := fun r => r = SR.nx E) (d := eS u) (by
        have ha : addL (.lst (s.ti.map eP)) (.lst [.tup [.str (nth s.g q1), .str (nth O q2)]]) = some (s.ti.map eP ++ [.tup [.str (nth s.g q1), .str (nth O q2)]]) := addLL _ _ (by simp; omega)
        simp only [e_mFz, e_mLstL, e_mCons, e_mNil, e_mOp, e_mVar, e_mC, e_mCB, e_f1, e_mTupL, e_listL, rb_ok, List.getElem?_cons_succ, List.getElem?_cons_zero, clD_sh, eS0, eS1, eS2, eS3, e_ofO_some, List.length_cons, List.length_nil, Nat.zero_add, Nat.reduceAdd, hz1, hz2, hz4, if_true, ha, ue]) ?_
      simp only [List.set_cons_succ, List.set_cons_zero]
      refine seq_set (Q := fun r => r = SR.nx E) (d := POb u) (by
        have hneg12 : negD (.int 12) = some (.int (-12)) := rfl
        have htd : (mFzO (mOMeth "Seen" "tied" M_Seen_tied 2 0 [.p 0, .p 1, .p 2] [] [] (mVar 3) (mCons (mVar 9) (mCons (mVar 14) mNil)) mNil)) [.sh (.scr ns), .sh (.lst (dI hd)), .sh (eS s), .sh (SOb s), .sh (POb s), .sh (.lst (dI tr)), .sh (.lst (dT T)), .sh (.lst [.bl true, .bl (!decide (leftF s = []))]), c8, .sh (.str (nth s.g q1)), .sh (.lst (dS O)), .un, c12, c13, .sh (.str (nth O q2)), .sh (eS u), .un, .un, .un] = .ok (SOb u) := by
          simp [isOb_ti, arr2, htied]
        rw [e_mCall, e_mCons, htd]
        simp only [e_mCons, e_mNil, e_mOp, e_mVar, e_mC, e_mFz, e_mSl, e_mONone, e_mOSome, e_mUn, rb_ok, List.getElem?_cons_succ, List.getElem?_cons_zero, clD_sh, g3, e_ofO_some, e31, hneg12, e_asI, last12, List.append_nil, uask]) ?_
      simp only [List.set_cons_succ, List.set_cons_zero]
      have hsl := (left_lot hok).len hgl
      have nn := none_new (L := leftF s) (M := leftF u) usub (by omega) (i := 18) (m := mUn (fldD ["Peel"] "left") (mVar 4)) (mM := mUn (fldD ["Peel"] "left") (mVar 16)) (env := [.sh (.scr ns), .sh (.lst (dI hd)), .sh (eS s), .sh (SOb s), .sh (POb s), .sh (.lst (dI tr)), .sh (.lst (dT T)), .sh (.lst [.bl true, .bl (!decide (leftF s = []))]), c8, .sh (.str (nth s.g q1)), .sh (.lst (dS O)), .un, c12, c13, .sh (.str (nth O q2)), .sh (eS u), .sh (POb u), .un, .un]) (by simp) (by simp) (fun d => by simp)
      have hs2 : ∀ (c : En → Res Bool) (a : En → SR) (env : En), c env = .ok false → mIfS c a mNx env = .nx env := fun c a env h => by simp [h]
      rw [← hE]
      refine hs2 _ _ _ ?_
      rw [e_mOr, nn]
      simp [isN_P]
    · rw [if_neg (by simpa using hOl)]
      exact ⟨_, rfl, _, _, _, rfl⟩
  rintro e ⟨c14, c15, c16, rfl⟩
  have ask0 := asked_ok hs T12 (decide ((a3 : Int) = 0))
  refine seq_skip (by
    have hneg12 : negD (.int 12) = some (.int (-12)) := rfl
    simp only [e_mTest, e_mCall, e_mCons, e_mNil, e_mOp, e_mVar, e_mC, e_mFz, e_mSl, e_mONone, e_mOSome, e_mUn, rb_ok, List.getElem?_cons_succ, List.getElem?_cons_zero, clD_sh, g3, e_ofO_some, e30, hneg12, e_asI, last12, List.append_nil, ask0, isN_P, e_asB]) ?_
  have sg : M_law_same 5 [.tup (dS s.g), .tup (dS s.g)] = .ok (.bl true) := same_ok (sd_names (n := 3) hok.nm (by omega))
  have sk : M_law_same 5 [.tup (s.tk.map eK), .tup (s.tk.map eK)] = .ok (.bl true) := same_ok (sd_tk hok)
  have sd : M_law_same 5 [.tup (dI s.dp), .tup (dI s.dp)] = .ok (.bl true) := same_ok (sd_ints (n := 3) (by rw [hok.dl]; omega))
  have si : M_law_same 5 [.tup (s.ti.map eP), .tup (s.ti.map eP)] = .ok (.bl true) := same_ok (sd_ti hok)
  refine seq_set (d := .bl true) (by
    simp only [e_mAndV, e_mCall, e_mCons, e_mNil, e_mUn, e_mOp, e_mCB, e_f1, e_mVar, e_mC, rb_ok, List.getElem?_cons_succ, List.getElem?_cons_zero, clD_sh, fs_g, fs_t, eS0, eS1, e_ofO_some, e_tupL, List.append_nil, sg, sk, andV_t]) ?_
  simp only [List.set_cons_succ, List.set_cons_zero]
  refine seq_set (d := .bl true) (by
    simp only [e_mAndV, e_mCall, e_mCons, e_mNil, e_mUn, e_mOp, e_mCB, e_f1, e_mVar, e_mC, rb_ok, List.getElem?_cons_succ, List.getElem?_cons_zero, clD_sh, fs_d, fs_i, eS2, eS3, e_ofO_some, e_tupL, List.append_nil, sd, si, andV_t]) ?_
  simp only [List.set_cons_succ, List.set_cons_zero]
  rw [← hQ]
  simp only [e_mRet, e_mS, e_mAndV, e_mCall, e_mCons, e_mNil, e_mVar, rb_ok, List.getElem?_cons_succ, List.getElem?_cons_zero, clD_sh, List.append_nil, hright, andV_t, resS_ok, outD_rt]
end Pl

set_option Elab.async false
set_option linter.all false
set_option maxRecDepth 100000
set_option maxHeartbeats 0
namespace K49
open PySem PySem.Spec PyProof.Rows L2 Sm
abbrev R : PySem.W.OpenRow := PySem.W.OpenLaw.row PySem.Challenge.rw_leavetaking_k49_peeling_whole
abbrev qv : Program := PySem.W.view R.prog [46]
def names : List PySem.Str := (["frozen", "Peel", "peel", "is_stuck", "_next_off", "LeaveError", "BadName", "TakenName", "BadDepth", "BadTaking", "BadTie", "is_name", "own_names", "_is_letter", "Seen", "_limits", "_checked_depths", "_checked_takings", "_checked_ties", "_law_whole"] : List PySem.Str) ++ (["_law_same", "_law_cell", "_law_digits", "_law_order", "_law_names", "_law_taking", "_law_ties", "_law_seen", "_law_explains", "_law_fits", "_law_orders", "_law_free", "_law_peeled", "_law_stuck", "_law_left", "_law_made", "_law_lots", "_law_judged", "_law_right", "_law_asked"] : List PySem.Str)
abbrev hk : PySem.W.Hook := hookY 5 fa fn ts ex
def ob (s : PySem.W.SharedT) : He.AlT × Bool := obsYG 5 fa fn ts ex (HandSHeadRun.getT s)
theorem ob_eq (s : PySem.W.SharedT) : ob s = hk.obs s.abs := obsYG_eq (HandSHeadRun.getT_eq s)
theorem runF (w : World) : HandSHeadRun.RunEq R qv hk ob 20000 names (w.withFollow "special-get-raises" false) := by
  intro os
  kernel_rfl
theorem runT (w : World) : HandSHeadRun.RunEq R qv hk ob 20000 names (w.withFollow "special-get-raises" true) := by
  intro os
  kernel_rfl
theorem run (w : World) : HandSHeadRun.RunEq R qv hk ob 20000 names w := PySem.W.byRow2 "special-get-raises" (P := fun w => HandSHeadRun.RunEq R qv hk ob 20000 names w) runF runT w
end K49

set_option Elab.async false
set_option linter.all false
set_option maxRecDepth 100000
set_option maxHeartbeats 0
namespace K49
open PySem PySem.Spec PyProof.Rows L2 Sm
def CXe : CXT := fun outer H s E u s' => ∃ w : World, L2.CX R.prog w outer H s E u s'
theorem cxe {w : World} {K : PySem.W.Frag} {mg : Str → Option Value} {base : Heap} {k : Nat} {f : Addr} {fd : FuncData} {ps : List Str} {sp : Sp} (F : FnOk R.prog w K mg base (L2.CX R.prog w) k f fd ps sp) : FnOk R.prog w K mg base CXe k f fd ps sp :=
  ⟨F.len, fun A outer s H args us vs Q E hr he hb hv hs => codeAny_mono (F.run A outer s H args us vs Q E hr he hb hv hs) fun r s' z => by
    cases r with
    | ok v => cases v <;> exact z
    | error e => exact ⟨w, z⟩⟩
theorem facts {w : World} {K : PySem.W.Frag} {h : Heap} {mg : Str → Option Value} {f : Addr} (X : K.In h) (G : h.Ns mainGlobals mg) (hfa : mg ("law" : Str) = some (.ref f)) (c : He.SaysT fa fn ts w K ∧ (ex.all fun f => f K) = true) :
    ∃ fd : FuncData, (∀ (s : Shared) (v : Value), BindsTo s fd ⟨[v], []⟩ [("_law_script", v)]) ∧ ∀ base : Heap, K.In base → base.Ns mainGlobals mg → FnOk R.prog w K mg base CXe 11 f fd ["_law_script"] (spD K M_law) := by
  have C : Ctx w K mg := { says := c.1.d, glo := fun x e => He.glo_ok X G e, free := fun x e => He.free_ok X G e, ex := c.2, tb := c.1 }
  have e := hfa.symm.trans (C.gl 63 (x := "law") rfl)
  cases e
  have b := FunD.bindsA (ps := ["_law_script"]) (fn_law C) fun _ _ _ _ _ _ us hl => match us, hl with | [_], _ => rfl
  exact ⟨fd_law C, fun s v => b s [v] rfl, fun base _ _ => cxe (ok_law C)⟩
end K49
open PySem PySem.W PySem.Calls PyProof.Rows
theorem holds_of (plain : ∀ ns : List Int, ns.length ≤ 63 → K49.M_law [.scr ns] = .ok (.bl true)) : PySem.Challenge.rw_leavetaking_k49_peeling_whole.Holds := by
  w_on; o_law
  refine HandSHeadRun.head_any (r := OpenLaw.row PySem.Challenge.rw_leavetaking_k49_peeling_whole) (q := view (OpenLaw.row PySem.Challenge.rw_leavetaking_k49_peeling_whole).prog [46]) (H := K49.hk) (ob := K49.ob) (M := 20000) (loose := K49.names) (d := HandSHeadRun.topDef (OpenLaw.row PySem.Challenge.rw_leavetaking_k49_peeling_whole).prog 46) (kwd := []) K49.ob_eq
    (by kernel_rfl) (fun s => by kernel_rfl) K49.run (by kernel_rfl) (by kernel_rfl) (by kernel_rfl) (by rfl) (by first | assumption | decide +kernel) (by decide +kernel) ⟨rfl, rfl, rfl, rfl, rfl, by decide +kernel⟩ ?hw ?hc
  case hw => w_witness2
  case hc =>
    refine L2.walk_ofE (l := PySem.Challenge.rw_leavetaking_k49_peeling_whole) (n := 63) (k := 11) (x := "_law_script") (CX := K49.CXe) rfl (by decide) (by kernel_rfl) ⟨rfl, by decide, by decide⟩ ?F ?CX
    case F =>
      intro w mg fa h Y G hmg0
      obtain ⟨K, KX, c⟩ := Y
      have hmg : mg ("law" : PySem.Str) = some (.ref fa) := by
        have e : (HandSHeadRun.topDef (OpenLaw.row PySem.Challenge.rw_leavetaking_k49_peeling_whole).prog 46).name = ("law" : PySem.Str) := by kernel_rfl
        rw [← e]
        exact hmg0
      obtain ⟨fd, hb, hF⟩ := K49.facts KX G hmg c
      refine ⟨K, fd, Sm.spD K K49.M_law, KX, hb, fun H a ns hl _ hS => ⟨H, [.scr ns], Sm.Ex.refl H, ?_, ?_⟩, hF⟩
      · simp only [Sm.Reps, Sm.Rep]
        exact ⟨_, _, rfl, ⟨a, rfl, hS⟩, rfl⟩
      · rw [plain ns hl]
        intro v B' H' x r
        simpa only [Sm.Rep] using r
    case CX =>
      intro H s e s' z
      obtain ⟨w, _, _, _, _, _, _, _, _, _, _, _, _, h⟩ := z
      exact h


open PySem PySem.W PyProof.Rows
set_option maxHeartbeats 0 in
theorem PySem.Challenge.cw_leavetaking_k49_peeling_whole_holds : PySem.Challenge.rw_leavetaking_k49_peeling_whole.Holds := by
  exact holds_of fun ns hn => Pl.law_ok ns
